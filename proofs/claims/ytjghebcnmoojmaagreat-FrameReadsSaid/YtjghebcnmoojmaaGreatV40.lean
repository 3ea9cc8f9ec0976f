/- A part of a kind out of bytes: -/
import Derived.Test.YtjghebcnmoojmaaGreatV36
import Derived.Test.YtjghebcnmoojmaaGreatV37
import Derived.Test.YtjghebcnmoojmaaGreatV39
set_option maxRecDepth 100000
set_option maxHeartbeats 32000000
namespace Go.Proofs.YtjghebcnmoojmaaGreat
open Go.RowKit MX MR
def rcP (k:Int)(xs:List Int):Pt:=
 if k=1 then⟨0,(zaj xs 0).M,(zaj xs 0).ys,0,[],[],0,0,0,0,⟨#[]⟩⟩
 else if k=2 then⟨0,0,[],(zaz xs 0).M,(zaz xs 0).ys,[],0,0,0,0,⟨#[]⟩⟩
 else if k=3 then⟨0,0,[],0,[],paY (acPF xs 0),0,0,0,0,⟨#[]⟩⟩
 else⟨0,0,[],0,[],[],(pkR (pkPF xs 0)).1,(pkR (pkPF xs 0)).2.1,(pkR (pkPF xs 0)).2.2.1,(pkR (pkPF xs 0)).2.2.2.1,(pkR (pkPF xs 0)).2.2.2.2⟩
def rcT (k:Int)(xs:List Int):Int:=if k=1 then(zaj xs 0).to else if k=2 then(zaz xs 0).to else if k=3 then paT (acPF xs 0)else pkT (pkPF xs 0)
def rcK (k:Int)(xs:List Int):Int:=if k=1 then(zaj xs 0).e else if k=2 then(zaz xs 0).e else if k=3 then paK (acPF xs 0)else pkE (pkPF xs 0)
def Pt.withK (p:Pt)(k:Int):Pt:=⟨k,p.be,p.es,p.bn,p.os,p.ks,p.s,p.d,p.t,p.n,p.x⟩
def RPt.withK (r:RPt)(k:Int):RPt:=⟨k,r.be,r.a1,r.l1,r.c1,r.bn,r.a2,r.l2,r.c2,r.a3,r.l3,r.c3,r.s,r.d,r.t,r.n,r.x⟩
theorem zlE {k:Int}(h:k=1∨k=2∨k=3∨k=4)(xs:List Int):zaE k xs=if rcK k xs=0∧rcT k xs=xs.length then some ((rcP k xs).withK k)else none:=by
 rcases h with rfl|rfl|rfl|rfl
 ·rw[znn];rfl
 ·rw[zmQ];rfl
 ·rw[zn6];rfl
 ·rw[zmN];rfl
theorem RPt.Ow.withK {w:World}{S:Nat}{r:RPt}{p:Pt}(h:r.Ow w S p)(k:Int):(r.withK k).Ow w S (p.withK k):=⟨rfl,h.be,h.es,h.bn,h.os,h.ks,h.s,h.d,h.t,h.n,h.x⟩
def RetC (w:World)(p:Pt)(T K:Int)(e:Ending)(w':World):Prop:=(∃r:RPt,e=.returned (.tuple #[.agg (xR r),xI T,xI K])∧r.Ow w' w.heap.size p)∧Below w.heap.size w w'
theorem gpc1 (b:Nat)(v:Value)(xs:List Int)(w:World)(hb:w.cell? (xQ b 0)=some v)(hv:Bs w v xs):Calls Tryz.prog 90 #[xP b] w (RetC w (rcP 1 xs) (rcT 1 xs) (rcK 1 xs)):=by
 obtain⟨a,l,c,rfl⟩:=zal hv
 obtain⟨rfl,-⟩:=za0 hv
 have OR:Hid (OwnT (w.alloc (.cells xL 50)) w.heap.size (⟨0,0,none,0,0,0,none,0,0,none,0,0,0,0,0,0,⟨#[]⟩⟩:RPt)):=zac w (⟨0,0,none,0,0,0,none,0,0,none,0,0,0,0,0,0,⟨#[]⟩⟩:RPt) 50 w.heap.size rfl
 have HB:Hid (Below w.heap.size w (w.alloc (.cells xL 50))):=xr.alloc xl _
 have HS0:Hid ((w.alloc (.cells xL 50)).heap.size=w.heap.size+1):=by show _=_;simp
 have HV:=xh (zaa hv HB.out)
 have cb:(w.alloc (.cells xL 50)).cell? (xQ b 0)=some (.slice a xs.length c):=by
  rw[HB.out.cell (p:=xQ b 0) (World.block_lt_of_cell? w _ hb)];exact hb
 clear hv hb
 obtain⟨V0,hV0⟩:∃V0,w.alloc (.cells xL 50)=V0:=⟨_,rfl⟩
 rw[hV0]at OR HB HV HS0 cb
 have HV0:=xh hV0
 clear hV0
 obtain⟨⟨M9,Y9,T9,K9⟩,h9⟩:∃r,zaj xs 0=r:=⟨_,rfl⟩
 have HT9:Hid (rcT 1 xs=T9):=by show(zaj xs 0).to=T9;rw[h9]
 have HK9:Hid (rcK 1 xs=K9):=by show(zaj xs 0).e=K9;rw[h9]
 have HP9:Hid (rcP 1 xs=⟨0,M9,Y9,0,[],[],0,0,0,0,⟨#[]⟩⟩):=by show(⟨0,(zaj xs 0).M,(zaj xs 0).ys,0,[],[],0,0,0,0,⟨#[]⟩⟩:Pt)=_;rw[h9]
 have cP:=zif (.slice a xs.length c) xs 0 V0 HV.out
 rw[h9]at cP
 clear h9
 go_enter Tryz.func90,Tryz.ntmps90
 go_upto_region 1 with (fail)
 rw[HV0.out]
 clear HV0
 go_wp2_with fail
 clear cb
 refine(cP).mono ?_
 rintro e V1 ⟨a9,c9,rfl,ho,hb⟩
 have HB1:=xh (HB.out.trans (hb.mono HB.out.size))
 have OR1:=xh (OR.out.below hb)
 have HOW:Hid ((⟨0,M9,a9,Y9.length,c9,0,none,0,0,none,0,0,0,0,0,0,⟨#[]⟩⟩:RPt).Ow V1 V0.heap.size ⟨0,M9,Y9,0,[],[],0,0,0,0,⟨#[]⟩⟩):=⟨rfl,rfl,ho,rfl,zat (R:=RO) _ _,zat (R:=RA) _ _,rfl,rfl,rfl,rfl,rfl⟩
 clear ho cP
 clear hb HV
 have hal:=(Below.refl V1.heap.size V1).alloc xl (.cells #[xI M9,.slice a9 Y9.length c9] 42)
 have HB2:=xh (HB1.out.trans (hal.mono HB1.out.size))
 have OR2:=xh (OR1.out.below hal)
 have HO2:=xh (HOW.out.below hal)
 clear hal
 obtain⟨gv,hgv⟩:∃g,V1.heap.size=g:=⟨_,rfl⟩
 have hcv:(V1.alloc (.cells #[xI M9,.slice a9 Y9.length c9] 42)).cell? (xQ gv 0)=xJ M9∧(V1.alloc (.cells #[xI M9,.slice a9 Y9.length c9] 42)).cell? (xQ gv 1)=some (.slice a9 Y9.length c9):=by
  subst hgv
  exact⟨by simp,by simp⟩
 have HGV:Hid (w.heap.size<gv):=by rw[←hgv];exact OR1.out.lt
 have HCV:=xh hcv
 clear hcv
 have HGE:=xh hgv
 clear hgv
 go_upto_region 2 with (fail)
 rw[HGE.out]
 obtain⟨V2,hV2⟩:∃V2,V1.alloc (.cells #[xI M9,.slice a9 Y9.length c9] 42)=V2:=⟨_,rfl⟩
 rw[hV2]at HB2 OR2 HO2 HCV
 rw[hV2]
 clear hV2 HGE
 have hgn1:gv≠w.heap.size:=by have:=HGV.out;omega
 obtain⟨q0,q1⟩:=HCV.out
 obtain⟨⟨u0,u1,u2,u3,u4,u5,u6,u7,u8,u9,u10⟩,uf⟩:=OR2.out
 go_wp2_with fail
 have hs:=(OR2.out.setall ⟨0,M9,a9,Y9.length,c9,0,none,0,0,none,0,0,0,0,0,0,⟨#[]⟩⟩).1
 have hbs:=zag (b:=w.heap.size) HB2.out xl ⟨0,M9,a9,Y9.length,c9,0,none,0,0,none,0,0,0,0,0,0,⟨#[]⟩⟩
 have hho:=zaT HO2.out (b:=w.heap.size) (by have:=HS0.out;omega) ⟨0,M9,a9,Y9.length,c9,0,none,0,0,none,0,0,0,0,0,0,⟨#[]⟩⟩
 simp only at hs hbs hho
 generalize (xC V2 w.heap.size #[xI 0,xI M9,.slice a9 Y9.length c9,xI 0,xS,xS,xI 0,xI 0,xI 0,xI 0,xT]:World)=W5 at*
 obtain⟨s0_,s1_,s2_,s3_,s4_,s5_,s6_,s7_,s8_,s9_,s10_⟩:=hs
 exact bodyPost_ret (v:=.tuple #[.agg #[xI 0,xI M9,.slice a9 Y9.length c9,xI 0,xS,xS,xI 0,xI 0,xI 0,xI 0,xT],xI T9,xI K9]) (by simp[results,Tryz.results90,go_sem,s0_,s1_,s2_,s3_,s4_,s5_,s6_,s7_,s8_,s9_,s10_]) rfl ⟨⟨⟨0,M9,a9,Y9.length,c9,0,none,0,0,none,0,0,0,0,0,0,⟨#[]⟩⟩,by rw[HT9.out,HK9.out],by rw[show rcP 1 xs=_ from HP9.out];exact hho.mono (by have:=HS0.out;omega)⟩,hbs⟩
theorem gpc2 (b:Nat)(v:Value)(xs:List Int)(w:World)(hb:w.cell? (xQ b 0)=some v)(hv:Bs w v xs):Calls Tryz.prog 92 #[xP b] w (RetC w (rcP 2 xs) (rcT 2 xs) (rcK 2 xs)):=by
 obtain⟨a,l,c,rfl⟩:=zal hv
 obtain⟨rfl,-⟩:=za0 hv
 have OR:Hid (OwnT (w.alloc (.cells xL 50)) w.heap.size (⟨0,0,none,0,0,0,none,0,0,none,0,0,0,0,0,0,⟨#[]⟩⟩:RPt)):=zac w (⟨0,0,none,0,0,0,none,0,0,none,0,0,0,0,0,0,⟨#[]⟩⟩:RPt) 50 w.heap.size rfl
 have HB:Hid (Below w.heap.size w (w.alloc (.cells xL 50))):=xr.alloc xl _
 have HS0:Hid ((w.alloc (.cells xL 50)).heap.size=w.heap.size+1):=by show _=_;simp
 have HV:=xh (zaa hv HB.out)
 have cb:(w.alloc (.cells xL 50)).cell? (xQ b 0)=some (.slice a xs.length c):=by
  rw[HB.out.cell (p:=xQ b 0) (World.block_lt_of_cell? w _ hb)];exact hb
 clear hv hb
 obtain⟨V0,hV0⟩:∃V0,w.alloc (.cells xL 50)=V0:=⟨_,rfl⟩
 rw[hV0]at OR HB HV HS0 cb
 have HV0:=xh hV0
 clear hV0
 obtain⟨⟨M9,Y9,T9,K9⟩,h9⟩:∃r,zaz xs 0=r:=⟨_,rfl⟩
 have HT9:Hid (rcT 2 xs=T9):=by show(zaz xs 0).to=T9;rw[h9]
 have HK9:Hid (rcK 2 xs=K9):=by show(zaz xs 0).e=K9;rw[h9]
 have HP9:Hid (rcP 2 xs=⟨0,0,[],M9,Y9,[],0,0,0,0,⟨#[]⟩⟩):=by show(⟨0,0,[],(zaz xs 0).M,(zaz xs 0).ys,[],0,0,0,0,⟨#[]⟩⟩:Pt)=_;rw[h9]
 have cP:=zie (.slice a xs.length c) 0 xs V0 HV.out
 rw[h9]at cP
 clear h9
 go_enter Tryz.func92,Tryz.ntmps92
 go_upto_region 1 with (fail)
 rw[HV0.out]
 clear HV0
 go_wp2_with fail
 clear cb
 refine(cP).mono ?_
 rintro e V1 ⟨r9,rfl,ho,hb⟩
 have HB1:=xh (HB.out.trans (hb.mono HB.out.size))
 have OR1:=xh (OR.out.below hb)
 obtain⟨a9,c9,rfl⟩:=zap ho
 have HOW:Hid ((⟨0,0,none,0,0,M9,a9,Y9.length,c9,none,0,0,0,0,0,0,⟨#[]⟩⟩:RPt).Ow V1 V0.heap.size ⟨0,0,[],M9,Y9,[],0,0,0,0,⟨#[]⟩⟩):=⟨rfl,rfl,zat (R:=RE) _ _,rfl,ho,zat (R:=RA) _ _,rfl,rfl,rfl,rfl,rfl⟩
 clear ho cP
 clear hb HV
 have hal:=(Below.refl V1.heap.size V1).alloc xl (.cells #[xI M9,.slice a9 Y9.length c9] 45)
 have HB2:=xh (HB1.out.trans (hal.mono HB1.out.size))
 have OR2:=xh (OR1.out.below hal)
 have HO2:=xh (HOW.out.below hal)
 clear hal
 obtain⟨gv,hgv⟩:∃g,V1.heap.size=g:=⟨_,rfl⟩
 have hcv:(V1.alloc (.cells #[xI M9,.slice a9 Y9.length c9] 45)).cell? (xQ gv 0)=xJ M9∧(V1.alloc (.cells #[xI M9,.slice a9 Y9.length c9] 45)).cell? (xQ gv 1)=some (.slice a9 Y9.length c9):=by
  subst hgv
  exact⟨by simp,by simp⟩
 have HGV:Hid (w.heap.size<gv):=by rw[←hgv];exact OR1.out.lt
 have HCV:=xh hcv
 clear hcv
 have HGE:=xh hgv
 clear hgv
 go_upto_region 2 with (fail)
 rw[HGE.out]
 obtain⟨V2,hV2⟩:∃V2,V1.alloc (.cells #[xI M9,.slice a9 Y9.length c9] 45)=V2:=⟨_,rfl⟩
 rw[hV2]at HB2 OR2 HO2 HCV
 rw[hV2]
 clear hV2 HGE
 have hgn1:gv≠w.heap.size:=by have:=HGV.out;omega
 obtain⟨q0,q1⟩:=HCV.out
 obtain⟨⟨u0,u1,u2,u3,u4,u5,u6,u7,u8,u9,u10⟩,uf⟩:=OR2.out
 go_wp2_with fail
 have hs:=(OR2.out.setall ⟨0,0,none,0,0,M9,a9,Y9.length,c9,none,0,0,0,0,0,0,⟨#[]⟩⟩).1
 have hbs:=zag (b:=w.heap.size) HB2.out xl ⟨0,0,none,0,0,M9,a9,Y9.length,c9,none,0,0,0,0,0,0,⟨#[]⟩⟩
 have hho:=zaT HO2.out (b:=w.heap.size) (by have:=HS0.out;omega) ⟨0,0,none,0,0,M9,a9,Y9.length,c9,none,0,0,0,0,0,0,⟨#[]⟩⟩
 simp only at hs hbs hho
 generalize (xC V2 w.heap.size #[xI 0,xI 0,xS,xI M9,.slice a9 Y9.length c9,xS,xI 0,xI 0,xI 0,xI 0,xT]:World)=W5 at*
 obtain⟨s0_,s1_,s2_,s3_,s4_,s5_,s6_,s7_,s8_,s9_,s10_⟩:=hs
 exact bodyPost_ret (v:=.tuple #[.agg #[xI 0,xI 0,xS,xI M9,.slice a9 Y9.length c9,xS,xI 0,xI 0,xI 0,xI 0,xT],xI T9,xI K9]) (by simp[results,Tryz.results92,go_sem,s0_,s1_,s2_,s3_,s4_,s5_,s6_,s7_,s8_,s9_,s10_]) rfl ⟨⟨⟨0,0,none,0,0,M9,a9,Y9.length,c9,none,0,0,0,0,0,0,⟨#[]⟩⟩,by rw[HT9.out,HK9.out],by rw[show rcP 2 xs=_ from HP9.out];exact hho.mono (by have:=HS0.out;omega)⟩,hbs⟩
theorem gpc3 (b:Nat)(v:Value)(xs:List Int)(w:World)(hb:w.cell? (xQ b 0)=some v)(hv:Bs w v xs):Calls Tryz.prog 94 #[xP b] w (RetC w (rcP 3 xs) (rcT 3 xs) (rcK 3 xs)):=by
 obtain⟨a,l,c,rfl⟩:=zal hv
 obtain⟨rfl,-⟩:=za0 hv
 have OR:Hid (OwnT (w.alloc (.cells xL 50)) w.heap.size (⟨0,0,none,0,0,0,none,0,0,none,0,0,0,0,0,0,⟨#[]⟩⟩:RPt)):=zac w (⟨0,0,none,0,0,0,none,0,0,none,0,0,0,0,0,0,⟨#[]⟩⟩:RPt) 50 w.heap.size rfl
 have HB:Hid (Below w.heap.size w (w.alloc (.cells xL 50))):=xr.alloc xl _
 have HS0:Hid ((w.alloc (.cells xL 50)).heap.size=w.heap.size+1):=by show _=_;simp
 have HV:=xh (zaa hv HB.out)
 have cb:(w.alloc (.cells xL 50)).cell? (xQ b 0)=some (.slice a xs.length c):=by
  rw[HB.out.cell (p:=xQ b 0) (World.block_lt_of_cell? w _ hb)];exact hb
 clear hv hb
 obtain⟨V0,hV0⟩:∃V0,w.alloc (.cells xL 50)=V0:=⟨_,rfl⟩
 rw[hV0]at OR HB HV HS0 cb
 have HV0:=xh hV0
 clear hV0
 obtain⟨Y9,hy9⟩:∃y,paY (acPF xs 0)=y:=⟨_,rfl⟩
 obtain⟨T9,ht9⟩:∃y,paT (acPF xs 0)=y:=⟨_,rfl⟩
 obtain⟨K9,hk9⟩:∃y,paK (acPF xs 0)=y:=⟨_,rfl⟩
 have cP:=(zgP (.slice a xs.length c) xs 0 V0 HV.out).mono fun e w' h=>zkK h
 rw[hy9,ht9,hk9]at cP
 have HT9:Hid (rcT 3 xs=T9):=ht9
 have HK9:Hid (rcK 3 xs=K9):=hk9
 have HP9:Hid (rcP 3 xs=⟨0,0,[],0,[],Y9,0,0,0,0,⟨#[]⟩⟩):=by show(⟨0,0,[],0,[],paY (acPF xs 0),0,0,0,0,⟨#[]⟩⟩:Pt)=_;rw[hy9]
 clear hy9 ht9 hk9
 go_enter Tryz.func94,Tryz.ntmps94
 go_upto_region 1 with (fail)
 rw[HV0.out]
 clear HV0
 go_wp2_with fail
 clear cb
 refine(cP).mono ?_
 rintro e V1 ⟨⟨a9,c9,rfl,ho⟩,hb⟩
 have HB1:=xh (HB.out.trans (hb.mono HB.out.size))
 have OR1:=xh (OR.out.below hb)
 have HOW:Hid ((⟨0,0,none,0,0,0,none,0,0,a9,Y9.length,c9,0,0,0,0,⟨#[]⟩⟩:RPt).Ow V1 V0.heap.size ⟨0,0,[],0,[],Y9,0,0,0,0,⟨#[]⟩⟩):=⟨rfl,rfl,zat (R:=RE) _ _,rfl,zat (R:=RO) _ _,ho,rfl,rfl,rfl,rfl,rfl⟩
 clear ho cP
 clear hb HV
 have HB2:=HB1
 have OR2:=OR1
 have HO2:=HOW
 obtain⟨⟨u0,u1,u2,u3,u4,u5,u6,u7,u8,u9,u10⟩,uf⟩:=OR2.out
 go_wp2_with fail
 have hs:=(OR2.out.setall ⟨0,0,none,0,0,0,none,0,0,a9,Y9.length,c9,0,0,0,0,⟨#[]⟩⟩).1
 have hbs:=zag (b:=w.heap.size) HB2.out xl ⟨0,0,none,0,0,0,none,0,0,a9,Y9.length,c9,0,0,0,0,⟨#[]⟩⟩
 have hho:=zaT HO2.out (b:=w.heap.size) (by have:=HS0.out;omega) ⟨0,0,none,0,0,0,none,0,0,a9,Y9.length,c9,0,0,0,0,⟨#[]⟩⟩
 simp only at hs hbs hho
 generalize (xC V1 w.heap.size #[xI 0,xI 0,xS,xI 0,xS,.slice a9 Y9.length c9,xI 0,xI 0,xI 0,xI 0,xT]:World)=W5 at*
 obtain⟨s0_,s1_,s2_,s3_,s4_,s5_,s6_,s7_,s8_,s9_,s10_⟩:=hs
 exact bodyPost_ret (v:=.tuple #[.agg #[xI 0,xI 0,xS,xI 0,xS,.slice a9 Y9.length c9,xI 0,xI 0,xI 0,xI 0,xT],xI T9,xI K9]) (by simp[results,Tryz.results94,go_sem,s0_,s1_,s2_,s3_,s4_,s5_,s6_,s7_,s8_,s9_,s10_]) rfl ⟨⟨⟨0,0,none,0,0,0,none,0,0,a9,Y9.length,c9,0,0,0,0,⟨#[]⟩⟩,by rw[HT9.out,HK9.out],by rw[show rcP 3 xs=_ from HP9.out];exact hho.mono (by have:=HS0.out;omega)⟩,hbs⟩
theorem gpc4 (b:Nat)(v:Value)(xs:List Int)(w:World)(hb:w.cell? (xQ b 0)=some v)(hv:Bs w v xs):Calls Tryz.prog 96 #[xP b] w (RetC w (rcP 4 xs) (rcT 4 xs) (rcK 4 xs)):=by
 obtain⟨a,l,c,rfl⟩:=zal hv
 obtain⟨rfl,-⟩:=za0 hv
 have OR:Hid (OwnT (w.alloc (.cells xL 50)) w.heap.size (⟨0,0,none,0,0,0,none,0,0,none,0,0,0,0,0,0,⟨#[]⟩⟩:RPt)):=zac w (⟨0,0,none,0,0,0,none,0,0,none,0,0,0,0,0,0,⟨#[]⟩⟩:RPt) 50 w.heap.size rfl
 have HB:Hid (Below w.heap.size w (w.alloc (.cells xL 50))):=xr.alloc xl _
 have HS0:Hid ((w.alloc (.cells xL 50)).heap.size=w.heap.size+1):=by show _=_;simp
 have HV:=xh (zaa hv HB.out)
 have cb:(w.alloc (.cells xL 50)).cell? (xQ b 0)=some (.slice a xs.length c):=by
  rw[HB.out.cell (p:=xQ b 0) (World.block_lt_of_cell? w _ hb)];exact hb
 clear hv hb
 obtain⟨V0,hV0⟩:∃V0,w.alloc (.cells xL 50)=V0:=⟨_,rfl⟩
 rw[hV0]at OR HB HV HS0 cb
 have HV0:=xh hV0
 clear hV0
 obtain⟨⟨ps,pd,pt,pn,px⟩,hy9⟩:∃y,pkR (pkPF xs 0)=y:=⟨_,rfl⟩
 obtain⟨T9,ht9⟩:∃y,pkT (pkPF xs 0)=y:=⟨_,rfl⟩
 obtain⟨K9,hk9⟩:∃y,pkE (pkPF xs 0)=y:=⟨_,rfl⟩
 have cP:=ziQ (.slice a xs.length c) xs 0 V0 HV.out
 rw[hy9,ht9,hk9]at cP
 have HT9:Hid (rcT 4 xs=T9):=ht9
 have HK9:Hid (rcK 4 xs=K9):=hk9
 have HP9:Hid (rcP 4 xs=⟨0,0,[],0,[],[],ps,pd,pt,pn,px⟩):=by show(⟨0,0,[],0,[],[],(pkR (pkPF xs 0)).1,(pkR (pkPF xs 0)).2.1,(pkR (pkPF xs 0)).2.2.1,(pkR (pkPF xs 0)).2.2.2.1,(pkR (pkPF xs 0)).2.2.2.2⟩:Pt)=_;rw[hy9]
 clear hy9 ht9 hk9
 go_enter Tryz.func96,Tryz.ntmps96
 go_upto_region 1 with (fail)
 rw[HV0.out]
 clear HV0
 go_wp2_with fail
 clear cb
 refine(cP).mono ?_
 rintro e V1 ⟨rfl,hb⟩
 have HB1:=xh (HB.out.trans (hb.mono HB.out.size))
 have OR1:=xh (OR.out.below hb)
 have HOW:Hid ((⟨0,0,none,0,0,0,none,0,0,none,0,0,ps,pd,pt,pn,px⟩:RPt).Ow V1 V0.heap.size ⟨0,0,[],0,[],[],ps,pd,pt,pn,px⟩):=⟨rfl,rfl,zat (R:=RE) _ _,rfl,zat (R:=RO) _ _,zat (R:=RA) _ _,rfl,rfl,rfl,rfl,rfl⟩
 clear cP
 clear hb HV
 have hal:=(Below.refl V1.heap.size V1).alloc xl (.cells (xA ps pd pt pn (.string px)) 48)
 have HB2:=xh (HB1.out.trans (hal.mono HB1.out.size))
 have OR2:=xh (OR1.out.below hal)
 have HO2:=xh (HOW.out.below hal)
 clear hal
 obtain⟨gv,hgv⟩:∃g,V1.heap.size=g:=⟨_,rfl⟩
 have hcv:(V1.alloc (.cells (xA ps pd pt pn (.string px)) 48)).cell? (xQ gv 0)=xJ ps∧(V1.alloc (.cells (xA ps pd pt pn (.string px)) 48)).cell? (xQ gv 1)=xJ pd∧(V1.alloc (.cells (xA ps pd pt pn (.string px)) 48)).cell? (xQ gv 2)=xJ pt∧(V1.alloc (.cells (xA ps pd pt pn (.string px)) 48)).cell? (xQ gv 3)=xJ pn∧(V1.alloc (.cells (xA ps pd pt pn (.string px)) 48)).cell? (xQ gv 4)=some (.string px):=by
  subst hgv
  exact⟨by simp,by simp,by simp,by simp,by simp⟩
 have HGV:Hid (w.heap.size<gv):=by rw[←hgv];exact OR1.out.lt
 have HCV:=xh hcv
 clear hcv
 have HGE:=xh hgv
 clear hgv
 go_upto_region 2 with (fail)
 rw[HGE.out]
 obtain⟨V2,hV2⟩:∃V2,V1.alloc (.cells (xA ps pd pt pn (.string px)) 48)=V2:=⟨_,rfl⟩
 rw[hV2]at HB2 OR2 HO2 HCV
 rw[hV2]
 clear hV2 HGE
 have hgn1:gv≠w.heap.size:=by have:=HGV.out;omega
 obtain⟨q0,q1,q2,q3,q4⟩:=HCV.out
 obtain⟨⟨u0,u1,u2,u3,u4,u5,u6,u7,u8,u9,u10⟩,uf⟩:=OR2.out
 go_wp2_with fail
 have hs:=(OR2.out.setall ⟨0,0,none,0,0,0,none,0,0,none,0,0,ps,pd,pt,pn,px⟩).1
 have hbs:=zag (b:=w.heap.size) HB2.out xl ⟨0,0,none,0,0,0,none,0,0,none,0,0,ps,pd,pt,pn,px⟩
 have hho:=zaT HO2.out (b:=w.heap.size) (by have:=HS0.out;omega) ⟨0,0,none,0,0,0,none,0,0,none,0,0,ps,pd,pt,pn,px⟩
 simp only at hs hbs hho
 generalize (xC V2 w.heap.size #[xI 0,xI 0,xS,xI 0,xS,xS,xI ps,xI pd,xI pt,xI pn,.string px]:World)=W5 at*
 obtain⟨s0_,s1_,s2_,s3_,s4_,s5_,s6_,s7_,s8_,s9_,s10_⟩:=hs
 exact bodyPost_ret (v:=.tuple #[.agg #[xI 0,xI 0,xS,xI 0,xS,xS,xI ps,xI pd,xI pt,xI pn,.string px],xI T9,xI K9]) (by simp[results,Tryz.results96,go_sem,s0_,s1_,s2_,s3_,s4_,s5_,s6_,s7_,s8_,s9_,s10_]) rfl ⟨⟨⟨0,0,none,0,0,0,none,0,0,none,0,0,ps,pd,pt,pn,px⟩,by rw[HT9.out,HK9.out],by rw[show rcP 4 xs=_ from HP9.out];exact hho.mono (by have:=HS0.out;omega)⟩,hbs⟩
theorem zcm:Tryz.prog.underlying 124=some (.map 3 122):=by kernel_rfl
theorem zct:Tryz.prog.underlying 3=some (.int .i64):=by kernel_rfl
theorem zoZ (w:World):(zeroValue 122).run Tryz.prog w=.ok .nilFunc w:=by kernel_rfl
theorem zb7 (W:World)(O:Obj)(b:Nat)(hb:b=W.heap.size):(W.alloc O).heap[b]? =some O:=by
 subst hb
 simp[World.alloc,-World.alloc_eq]
theorem zdp (a:Option Addr)(l c:Nat)(w:World):Calls Tryz.prog 73 #[.slice a l c] w fun e w'=>e=.returned (.map (some (w.heap.size+1)))∧w'=(w.alloc (.cells #[.slice a l c] 26)).alloc (.map (ent4 (xW 90 w.heap.size) (xW 92 w.heap.size) (xW 94 w.heap.size) (xW 96 w.heap.size)) 4):=by
 have hmm:= @run_makeMap Tryz.prog
 have hs:w.heap.size+1=(w.alloc (.cells #[.slice a l c] 26)).heap.size:=by simp
 have u1:=zbX (P:=Tryz.prog) zcm zct (w.alloc (.cells #[.slice a l c] 26)) #[] #[⟨xI 1,(xW 90 w.heap.size),0⟩] 0 1 (xW 90 w.heap.size) (w.heap.size+1) hs (by rfl) rfl
 have u2:=zbX (P:=Tryz.prog) zcm zct (w.alloc (.cells #[.slice a l c] 26)) #[⟨xI 1,(xW 90 w.heap.size),0⟩] #[⟨xI 1,(xW 90 w.heap.size),0⟩,⟨xI 2,(xW 92 w.heap.size),1⟩] 1 2 (xW 92 w.heap.size) (w.heap.size+1) hs (by simp[Instr.findNow,Instr.sameNow]) rfl
 have u3:=zbX (P:=Tryz.prog) zcm zct (w.alloc (.cells #[.slice a l c] 26)) #[⟨xI 1,(xW 90 w.heap.size),0⟩,⟨xI 2,(xW 92 w.heap.size),1⟩] #[⟨xI 1,(xW 90 w.heap.size),0⟩,⟨xI 2,(xW 92 w.heap.size),1⟩,⟨xI 3,(xW 94 w.heap.size),2⟩] 2 3 (xW 94 w.heap.size) (w.heap.size+1) hs (by simp[Instr.findNow,Instr.sameNow]) rfl
 have u4:=zbX (P:=Tryz.prog) zcm zct (w.alloc (.cells #[.slice a l c] 26)) #[⟨xI 1,(xW 90 w.heap.size),0⟩,⟨xI 2,(xW 92 w.heap.size),1⟩,⟨xI 3,(xW 94 w.heap.size),2⟩] (ent4 (xW 90 w.heap.size) (xW 92 w.heap.size) (xW 94 w.heap.size) (xW 96 w.heap.size)) 3 4 (xW 96 w.heap.size) (w.heap.size+1) hs (by simp[Instr.findNow,Instr.sameNow]) rfl
 simp only[Nat.zero_add,Nat.reduceAdd]at u1 u2 u3 u4
 clear hs
 go_enter Tryz.func73,Tryz.ntmps73
 go_wp2_with fail
 go_ret
 exact⟨rfl,rfl⟩
end Go.Proofs.YtjghebcnmoojmaaGreat
