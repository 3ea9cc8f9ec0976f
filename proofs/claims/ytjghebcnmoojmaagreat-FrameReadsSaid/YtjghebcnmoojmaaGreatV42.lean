/- A part out of bytes: A part out of bytes: What the reader answers at its end, of a frame. -/
import Derived.Test.YtjghebcnmoojmaaGreatV41
set_option maxRecDepth 100000
set_option maxHeartbeats 32000000
namespace Go.Proofs.YtjghebcnmoojmaaGreat
open Go.RowKit MX MR
def pOf:Option (Pt×Int)→Pt
 | none=>zPt
 | some x=>x.1
def StOk (o:Option (Pt×Int))(T K:Int):Prop:=match o with
 | none=>K≠0
 | some x=>T=x.2∧K=0
theorem zlq (w:World)(S:Nat):(⟨0,0,none,0,0,0,none,0,0,none,0,0,0,0,0,0,⟨#[]⟩⟩:RPt).Ow w S zPt:=⟨rfl,rfl,zat (R:=RE) _ _,rfl,zat (R:=RO) _ _,zat (R:=RA) _ _,rfl,rfl,rfl,rfl,rfl⟩
theorem RPt.Ow.onl {w w':World}{b S:Nat}{r:RPt}{p:Pt}(h:r.Ow w S p)(ho:Onl b w w')(hb:b<S):r.Ow w' S p:=
 ⟨h.k,h.be,zaY h.es ho hb,h.bn,zaY h.os ho hb,zaY h.ks ho hb,h.s,h.d,h.t,h.n,h.x⟩
theorem OwnT.onl {w w':World}{b g:Nat}{r:RPt}(h:OwnT w g r)(ho:Onl b w w')(hg:g≠b):OwnT w' g r:=by
 have hl:=h.lt
 obtain⟨⟨h0,h1,h2,h3,h4,h5,h6,h7,h8,h9,h10⟩,hf⟩:=h
 have f:∀{j:Nat} {v:Value},w.cell? ⟨g,j,none⟩=some v→w'.cell? ⟨g,j,none⟩=some v:=fun{j v} h=>(ho.cell (p:=⟨g,j,none⟩) hg hl).trans h
 exact⟨⟨f h0,f h1,f h2,f h3,f h4,f h5,f h6,f h7,f h8,f h9,f h10⟩,fun j=>(ho.frozen (p:=⟨g,j,none⟩) hg hl).trans (hf j)⟩
def RetN (w:World)(o:Option (Pt×Int))(e:Ending)(w':World):Prop:=(∃(r:RPt) (T K:Int),e=.returned (.tuple #[.agg (xR r),xI T,xI K])∧r.Ow w' w.heap.size (pOf o)∧StOk o T K)∧Below w.heap.size w w'
theorem znJ {w w':World}{o:Option Pt}{to:Int}{e:Ending}(h:RetG w o to e w'):RetN w (o.map fun p=>(p,to)) e w':=by
 obtain⟨h1,h2⟩:=h
 match o,h1 with
 | none,h1=>exact⟨⟨zR,0,4,h1,zlq _ _,(by decide:(4:Int)≠0)⟩,h2⟩
 | some p,⟨r,h1,h3⟩=>exact⟨⟨r,to,0,h1,h3,rfl,rfl⟩,h2⟩
def RetX (w:World)(b:Nat)(o:Option (Pt×Int))(e:Ending)(w':World):Prop:=∃(r:RPt) (T K:Int),e=.returned (.agg (xR r))∧r.Ow w' w.heap.size (pOf o)∧StOk o T K∧Rd w' b T K∧Onl b w w'
theorem znU (v:Value)(xs:List Int)(q kd n:Int)(g1 g2:Nat)(w:World)(c1:w.cell? (xQ g1 0)=xJ kd)(c2:w.cell? (xQ g2 0)=xJ n)(hv:Bs w v xs)(hq:0≤q∧q≤xs.length)(hn:0≤n∧n≤65535)(h7:1≤xs.length):
  Calls Tryz.prog 54 #[v,xI q,xP g1,xP g2] w (RetN w ((zbp xs q kd n).map fun p=>(p,q+n))):=by
 obtain⟨a,l,c,rfl⟩:=zal hv
 have OR:Hid (OwnT (w.alloc (.cells xL 50)) w.heap.size (⟨0,0,none,0,0,0,none,0,0,none,0,0,0,0,0,0,⟨#[]⟩⟩:RPt)):=zac w (⟨0,0,none,0,0,0,none,0,0,none,0,0,0,0,0,0,⟨#[]⟩⟩:RPt) 50 w.heap.size rfl
 have HB:Hid (Below w.heap.size w (w.alloc (.cells xL 50))):=xr.alloc xl _
 have cF:=(zgM (.slice a l c) xs q kd n (w.alloc (.cells xL 50)) (zaa hv HB.out) hq hn h7).mono fun e w' h=>znJ h
 have d1:(w.alloc (.cells xL 50)).cell? (xQ g1 0)=xJ kd:=by rw[HB.out.cell (p:=xQ g1 0) (World.block_lt_of_cell? w _ c1)];exact c1
 have d2:(w.alloc (.cells xL 50)).cell? (xQ g2 0)=xJ n:=by rw[HB.out.cell (p:=xQ g2 0) (World.block_lt_of_cell? w _ c2)];exact c2
 have HS0:Hid ((w.alloc (.cells xL 50)).heap.size=w.heap.size+1):=by show _=_;simp
 obtain⟨V0,hV0⟩:∃V0,w.alloc (.cells xL 50)=V0:=⟨_,rfl⟩
 rw[hV0]at OR HB cF d1 d2 HS0
 have HV0:=xh hV0
 generalize ((zbp xs q kd n).map fun p=>(p,q+n))=o at*
 clear hV0 c1 c2 hv hq hn h7
 go_enter Tryz.func54,Tryz.ntmps54
 go_upto_region 1 with (fail)
 rw[HV0.out]
 clear HV0
 go_wp2_with fail
 clear d1 d2
 refine cF.mono ?_
 rintro e V1 ⟨⟨r,T,K,rfl,ho,hs⟩,hb⟩
 have HB1:=xh (HB.out.trans (hb.mono HB.out.size))
 have OR1:=xh (OR.out.below hb)
 have HO1:=xh ho
 have HST:=xh hs
 clear hb ho hs cF
 obtain⟨⟨u0,u1,u2,u3,u4,u5,u6,u7,u8,u9,u10⟩,uf⟩:=OR1.out
 go_wp2_with fail
 have hs:=(OR1.out.setall r).1
 have hbs:=zag (b:=w.heap.size) HB1.out xl r
 have hho:=zaT HO1.out (b:=w.heap.size) (by have:=HS0.out;omega) r
 generalize (xC V1 w.heap.size (xR r):World)=W5 at*
 obtain⟨s0_,s1_,s2_,s3_,s4_,s5_,s6_,s7_,s8_,s9_,s10_⟩:=hs
 exact bodyPost_ret (v:=.tuple #[.agg (xR r),xI T,xI K]) (by simp[results,Tryz.results54,go_sem,s0_,s1_,s2_,s3_,s4_,s5_,s6_,s7_,s8_,s9_,s10_]) rfl ⟨⟨r,T,K,rfl,hho.mono (by have:=HS0.out;omega),HST.out⟩,hbs⟩
theorem zkQ (b:Nat)(v:Value)(xs:List Int)(k e0:Int)(g1 g2:Nat)(oo:Option (Pt×Int))(w:World)(h:Rd w b k e0)(hv:Bs w v xs)(cP:e0=0→∀V,Below w.heap.size w V→Calls Tryz.prog 54 #[v,xI k,xP g1,xP g2] V (RetN V oo)):
  Calls Tryz.prog 32 #[xP b,v,.func (Fn.func 54) #[] #[xP g1,xP g2]] w (RetX w b (if e0=0 then oo else none)):=by
 obtain⟨oz,hoz⟩:∃oz,(if e0=0 then oo else none)=oz:=⟨_,rfl⟩
 rw[hoz]
 have HOZ:=xh hoz
 clear hoz
 have hlt:b<w.heap.size:=World.block_lt_of_cell? w _ h.1
 have HL:=xh hlt
 have hb0:Below w.heap.size w ((w.alloc (.cells xL 50)).alloc (.cells xL 50)):=(xr.alloc xl _).alloc (by simp) _
 have OA:=xh ((zac w (⟨0,0,none,0,0,0,none,0,0,none,0,0,0,0,0,0,⟨#[]⟩⟩:RPt) 50 w.heap.size rfl).below (xr.alloc xl (.cells xL 50)))
 have OB:=xh (zac (w.alloc (.cells xL 50)) (⟨0,0,none,0,0,0,none,0,0,none,0,0,0,0,0,0,⟨#[]⟩⟩:RPt) 50 (w.heap.size+1) (by simp))
 have HB:=xh (Onl.of_below b hb0)
 have R:=xh (h.below hb0)
 have HS0:Hid (((w.alloc (.cells xL 50)).alloc (.cells xL 50)).heap.size=w.heap.size+2):=by show _=_;simp
 have C0:=xh (fun he=>cP he _ hb0)
 obtain⟨a,l,c,rfl⟩:=zal hv
 have hd1:b≠w.heap.size+1:=by omega
 have hd2:w.heap.size+1≠b:=by omega
 have hd3:b≠w.heap.size:=by omega
 have hd4:w.heap.size≠b:=by omega
 clear h hv hb0 hlt cP
 obtain⟨V0,hV0⟩:∃V0,((w.alloc (.cells xL 50)).alloc (.cells xL 50))=V0:=⟨_,rfl⟩
 rw[hV0]at OA OB HB R C0 HS0
 have HV0:=xh hV0
 clear hV0
 go_enter Tryz.func32,Tryz.ntmps32
 go_upto_region 2 with (fail)
 rw[HV0.out]
 clear HV0
 by_cases he:e0=0
 ·subst he
  obtain rfl:oo=oz:=(if_pos rfl).symm.trans HOZ.out
  have cP:=C0.out rfl
  obtain⟨z0,z1,zf⟩:=R.out
  go_wp2_with fail
  refine cP.mono ?_
  rintro e V1 ⟨⟨r,T,K,rfl,ho,hst⟩,hb⟩
  clear z0 z1 zf cP C0
  replace OA:=xh (OA.out.below hb)
  replace OB:=xh (OB.out.below hb)
  replace R:=xh (R.out.below hb)
  replace HB:=xh (HB.out.trans (Onl.of_below b hb))
  have HO1:=xh ho
  have HST:=xh hst
  clear hb ho hst
  obtain⟨V2,hV2⟩:∃V2,(xC V1 (w.heap.size+1) (xR r):World)=V2:=⟨_,rfl⟩
  have OB2:=xh (OB.out.setall r)
  have hbel:=zag (b:=w.heap.size+1) (Below.refl (w.heap.size+1) V1) xl r
  have HO2:=xh (zaT HO1.out (b:=w.heap.size+1) (by have:=HS0.out;omega) r)
  rw[hV2]at OB2 hbel HO2
  have hsz:w.heap.size+2≤V1.heap.size:=by have:=OB.out.lt;omega
  have hw0:w.heap.size+1≤V1.heap.size:=by omega
  have OA2:=xh (OA.out.low (Nat.lt_succ_self _) hbel)
  have R2:=xh (R.out.low (S:=w.heap.size+1) (by have:=HL.out;omega) hbel)
  have HB2:=xh (HB.out.then hbel (Nat.le_succ _))
  clear hbel
  obtain⟨⟨u0,u1,u2,u3,u4,u5,u6,u7,u8,u9,u10⟩,uf⟩:=OB.out
  obtain⟨z0,z1,zf⟩:=R2.out
  obtain⟨V3,hV3⟩:∃V3,(xC V2 b #[xI T,xI K]:World)=V3:=⟨_,rfl⟩
  have R3:=xh (R2.out.set T K)
  have O3:Onl b V2 (xC V2 b #[xI T,xI K]):=((Onl.refl _ _).set 0 _).set 1 _
  rw[hV3]at R3 O3
  have OA3:=xh (OA2.out.onl O3 hd4)
  have OB3:=xh (OB2.out.onl O3 hd2)
  have HB3:=xh (HB2.out.trans O3)
  have HO3:=xh (HO2.out.onl O3 (by have:=HL.out;have:=HS0.out;omega))
  clear O3 hsz hw0
  obtain⟨⟨m0,m1,m2,m3,m4,m5,m6,m7,m8,m9,m10⟩,mf⟩:=OB3.out
  obtain⟨⟨q0,q1,q2,q3,q4,q5,q6,q7,q8,q9,q10⟩,qf⟩:=OA3.out
  go_wp2_with fail
  have hs:=(OA3.out.setall r).1
  have hbs:=zag (b:=w.heap.size) (Below.refl w.heap.size V3) xl r
  have hho:=zaT HO3.out (b:=w.heap.size) (by have:=HS0.out;omega) r
  generalize (xC V3 w.heap.size (xR r):World)=W5 at*
  obtain⟨s0_,s1_,s2_,s3_,s4_,s5_,s6_,s7_,s8_,s9_,s10_⟩:=hs
  exact bodyPost_ret (v:=.agg (xR r)) (by simp[results,Tryz.results32,go_sem,s0_,s1_,s2_,s3_,s4_,s5_,s6_,s7_,s8_,s9_,s10_]) rfl ⟨r,T,K,rfl,hho.mono (by have:=HS0.out;omega),HST.out,R3.out.low HL.out hbs,HB3.out.then hbs xl⟩
 ·have hne:(e0==0)=false:=by simpa using he
  have HE:=xh he
  obtain rfl:none=oz:=(if_neg he).symm.trans HOZ.out
  clear he C0 HOZ
  obtain⟨z0,z1,zf⟩:=R.out
  obtain⟨⟨u0,u1,u2,u3,u4,u5,u6,u7,u8,u9,u10⟩,uf⟩:=OB.out
  obtain⟨⟨q0,q1,q2,q3,q4,q5,q6,q7,q8,q9,q10⟩,qf⟩:=OA.out
  go_wp2_with fail
  have hs:=(OA.out.setall (⟨0,0,none,0,0,0,none,0,0,none,0,0,0,0,0,0,⟨#[]⟩⟩:RPt)).1
  have hbs:=zag (b:=w.heap.size) (Below.refl w.heap.size V0) xl (⟨0,0,none,0,0,0,none,0,0,none,0,0,0,0,0,0,⟨#[]⟩⟩:RPt)
  simp only at hs hbs
  generalize (xC V0 w.heap.size xL:World)=W5 at*
  obtain⟨s0_,s1_,s2_,s3_,s4_,s5_,s6_,s7_,s8_,s9_,s10_⟩:=hs
  exact bodyPost_ret (v:=.agg xL) (by simp[results,Tryz.results32,go_sem,s0_,s1_,s2_,s3_,s4_,s5_,s6_,s7_,s8_,s9_,s10_]) rfl ⟨(⟨0,0,none,0,0,0,none,0,0,none,0,0,0,0,0,0,⟨#[]⟩⟩:RPt),k,e0,rfl,zlq _ _,HE.out,R.out.low HL.out hbs,HB.out.then hbs xl⟩
theorem zk0 (b:Nat)(v:Value)(xs:List Int)(k e0:Int)(oo:Option (Pt×Int))(w:World)(h:Rd w b k e0)(hv:Bs w v xs)(cP:e0=0→∀V,Below w.heap.size w V→Calls Tryz.prog 33 #[v,xI k] V (RetN V oo)):
  Calls Tryz.prog 32 #[xP b,v,.func (Fn.func 33) #[] #[]] w (RetX w b (if e0=0 then oo else none)):=by
 obtain⟨oz,hoz⟩:∃oz,(if e0=0 then oo else none)=oz:=⟨_,rfl⟩
 rw[hoz]
 have HOZ:=xh hoz
 clear hoz
 have hlt:b<w.heap.size:=World.block_lt_of_cell? w _ h.1
 have HL:=xh hlt
 have hb0:Below w.heap.size w ((w.alloc (.cells xL 50)).alloc (.cells xL 50)):=(xr.alloc xl _).alloc (by simp) _
 have OA:=xh ((zac w (⟨0,0,none,0,0,0,none,0,0,none,0,0,0,0,0,0,⟨#[]⟩⟩:RPt) 50 w.heap.size rfl).below (xr.alloc xl (.cells xL 50)))
 have OB:=xh (zac (w.alloc (.cells xL 50)) (⟨0,0,none,0,0,0,none,0,0,none,0,0,0,0,0,0,⟨#[]⟩⟩:RPt) 50 (w.heap.size+1) (by simp))
 have HB:=xh (Onl.of_below b hb0)
 have R:=xh (h.below hb0)
 have HS0:Hid (((w.alloc (.cells xL 50)).alloc (.cells xL 50)).heap.size=w.heap.size+2):=by show _=_;simp
 have C0:=xh (fun he=>cP he _ hb0)
 obtain⟨a,l,c,rfl⟩:=zal hv
 have hd1:b≠w.heap.size+1:=by omega
 have hd2:w.heap.size+1≠b:=by omega
 have hd3:b≠w.heap.size:=by omega
 have hd4:w.heap.size≠b:=by omega
 clear h hv hb0 hlt cP
 obtain⟨V0,hV0⟩:∃V0,((w.alloc (.cells xL 50)).alloc (.cells xL 50))=V0:=⟨_,rfl⟩
 rw[hV0]at OA OB HB R C0 HS0
 have HV0:=xh hV0
 clear hV0
 go_enter Tryz.func32,Tryz.ntmps32
 go_upto_region 2 with (fail)
 rw[HV0.out]
 clear HV0
 by_cases he:e0=0
 ·subst he
  obtain rfl:oo=oz:=(if_pos rfl).symm.trans HOZ.out
  have cP:=C0.out rfl
  obtain⟨z0,z1,zf⟩:=R.out
  go_wp2_with fail
  refine cP.mono ?_
  rintro e V1 ⟨⟨r,T,K,rfl,ho,hst⟩,hb⟩
  clear z0 z1 zf cP C0
  replace OA:=xh (OA.out.below hb)
  replace OB:=xh (OB.out.below hb)
  replace R:=xh (R.out.below hb)
  replace HB:=xh (HB.out.trans (Onl.of_below b hb))
  have HO1:=xh ho
  have HST:=xh hst
  clear hb ho hst
  obtain⟨V2,hV2⟩:∃V2,(xC V1 (w.heap.size+1) (xR r):World)=V2:=⟨_,rfl⟩
  have OB2:=xh (OB.out.setall r)
  have hbel:=zag (b:=w.heap.size+1) (Below.refl (w.heap.size+1) V1) xl r
  have HO2:=xh (zaT HO1.out (b:=w.heap.size+1) (by have:=HS0.out;omega) r)
  rw[hV2]at OB2 hbel HO2
  have hsz:w.heap.size+2≤V1.heap.size:=by have:=OB.out.lt;omega
  have hw0:w.heap.size+1≤V1.heap.size:=by omega
  have OA2:=xh (OA.out.low (Nat.lt_succ_self _) hbel)
  have R2:=xh (R.out.low (S:=w.heap.size+1) (by have:=HL.out;omega) hbel)
  have HB2:=xh (HB.out.then hbel (Nat.le_succ _))
  clear hbel
  obtain⟨⟨u0,u1,u2,u3,u4,u5,u6,u7,u8,u9,u10⟩,uf⟩:=OB.out
  obtain⟨z0,z1,zf⟩:=R2.out
  obtain⟨V3,hV3⟩:∃V3,(xC V2 b #[xI T,xI K]:World)=V3:=⟨_,rfl⟩
  have R3:=xh (R2.out.set T K)
  have O3:Onl b V2 (xC V2 b #[xI T,xI K]):=((Onl.refl _ _).set 0 _).set 1 _
  rw[hV3]at R3 O3
  have OA3:=xh (OA2.out.onl O3 hd4)
  have OB3:=xh (OB2.out.onl O3 hd2)
  have HB3:=xh (HB2.out.trans O3)
  have HO3:=xh (HO2.out.onl O3 (by have:=HL.out;have:=HS0.out;omega))
  clear O3 hsz hw0
  obtain⟨⟨m0,m1,m2,m3,m4,m5,m6,m7,m8,m9,m10⟩,mf⟩:=OB3.out
  obtain⟨⟨q0,q1,q2,q3,q4,q5,q6,q7,q8,q9,q10⟩,qf⟩:=OA3.out
  go_wp2_with fail
  have hs:=(OA3.out.setall r).1
  have hbs:=zag (b:=w.heap.size) (Below.refl w.heap.size V3) xl r
  have hho:=zaT HO3.out (b:=w.heap.size) (by have:=HS0.out;omega) r
  generalize (xC V3 w.heap.size (xR r):World)=W5 at*
  obtain⟨s0_,s1_,s2_,s3_,s4_,s5_,s6_,s7_,s8_,s9_,s10_⟩:=hs
  exact bodyPost_ret (v:=.agg (xR r)) (by simp[results,Tryz.results32,go_sem,s0_,s1_,s2_,s3_,s4_,s5_,s6_,s7_,s8_,s9_,s10_]) rfl ⟨r,T,K,rfl,hho.mono (by have:=HS0.out;omega),HST.out,R3.out.low HL.out hbs,HB3.out.then hbs xl⟩
 ·have hne:(e0==0)=false:=by simpa using he
  have HE:=xh he
  obtain rfl:none=oz:=(if_neg he).symm.trans HOZ.out
  clear he C0 HOZ
  obtain⟨z0,z1,zf⟩:=R.out
  obtain⟨⟨u0,u1,u2,u3,u4,u5,u6,u7,u8,u9,u10⟩,uf⟩:=OB.out
  obtain⟨⟨q0,q1,q2,q3,q4,q5,q6,q7,q8,q9,q10⟩,qf⟩:=OA.out
  go_wp2_with fail
  have hs:=(OA.out.setall (⟨0,0,none,0,0,0,none,0,0,none,0,0,0,0,0,0,⟨#[]⟩⟩:RPt)).1
  have hbs:=zag (b:=w.heap.size) (Below.refl w.heap.size V0) xl (⟨0,0,none,0,0,0,none,0,0,none,0,0,0,0,0,0,⟨#[]⟩⟩:RPt)
  simp only at hs hbs
  generalize (xC V0 w.heap.size xL:World)=W5 at*
  obtain⟨s0_,s1_,s2_,s3_,s4_,s5_,s6_,s7_,s8_,s9_,s10_⟩:=hs
  exact bodyPost_ret (v:=.agg xL) (by simp[results,Tryz.results32,go_sem,s0_,s1_,s2_,s3_,s4_,s5_,s6_,s7_,s8_,s9_,s10_]) rfl ⟨(⟨0,0,none,0,0,0,none,0,0,none,0,0,0,0,0,0,⟨#[]⟩⟩:RPt),k,e0,rfl,zlq _ _,HE.out,R.out.low HL.out hbs,HB.out.then hbs xl⟩
theorem ziP (b:Nat)(r:RPt)(at' e1:Int)(w:World)(h:Rd w b at' e1)(he:e1≠0):
  Calls Tryz.prog 56 #[xP b,.agg (xR r),.bool true] w fun e w'=>e=.returned (.tuple #[.agg xL,xI 0,xI e1])∧Onl b w w':=by
 have hne:(e1==0)=false:=by simpa using he
 have hlt:=World.block_lt_of_cell? w _ h.1
 have hb0:Below w.heap.size w ((w.alloc (.cells (xR r) 50)).alloc (.cells xL 50)):=(xr.alloc xl _).alloc (by simp) _
 have cN:=zay b true at' e1 ((w.alloc (.cells (xR r) 50)).alloc (.cells xL 50)) (h.below hb0)
 rw[show zai e1 true=e1 by simp[zai]]at cN
 have OB:=xh (zac (w.alloc (.cells (xR r) 50)) (⟨0,0,none,0,0,0,none,0,0,none,0,0,0,0,0,0,⟨#[]⟩⟩:RPt) 50 (w.heap.size+1) (by simp))
 have HB:=xh (Onl.of_below b hb0)
 have HL:Hid (b<w.heap.size):=hlt
 clear h he hlt hb0
 go_enter Tryz.func56,Tryz.ntmps56
 go_wp2_with (go_at_call 57;refine cN.mono ?_;rintro e w1 ⟨rfl,hR,hO⟩;replace OB:=xh (OB.out.onl hO (by have:=HL.out;omega));replace HB:=xh (HB.out.trans hO);have R:=xh hR;clear hO hR;obtain⟨z0,z1,zf⟩:=R.out)
 have OB2:=xh (OB.out.below (xr.alloc xl (.cells xL 50)))
 have OZ:=xh (zac w1 (⟨0,0,none,0,0,0,none,0,0,none,0,0,0,0,0,0,⟨#[]⟩⟩:RPt) 50 w1.heap.size rfl)
 have R2:=xh (R.out.alloc (.cells xL 50))
 have HB2:=xh (HB.out.alloc (.cells xL 50))
 have hne2:Hid (w.heap.size+1<w1.heap.size):=OB.out.lt
 clear z0 z1 zf R OB HB
 generalize w1.alloc (.cells xL 50)=V at*
 obtain⟨z0,z1,zf⟩:=R2.out
 obtain⟨⟨q0,q1,q2,q3,q4,q5,q6,q7,q8,q9,q10⟩,qf⟩:=OZ.out
 obtain⟨⟨u0,u1,u2,u3,u4,u5,u6,u7,u8,u9,u10⟩,uf⟩:=OB2.out
 have hd1:b≠w.heap.size+1:=by have:=HL.out;omega
 have hd2:w.heap.size+1≠b:=by have:=HL.out;omega
 go_region
 go_wp2_with fail
 have hs:=(OB2.out.setall (⟨0,0,none,0,0,0,none,0,0,none,0,0,0,0,0,0,⟨#[]⟩⟩:RPt)).1
 have hbs:=zag (b:=w.heap.size+1) (Below.refl w.heap.size V) (Nat.le_succ _) (⟨0,0,none,0,0,0,none,0,0,none,0,0,0,0,0,0,⟨#[]⟩⟩:RPt)
 simp only at hs hbs
 generalize (xC V (w.heap.size+1) xL:World)=W5 at*
 obtain⟨s0_,s1_,s2_,s3_,s4_,s5_,s6_,s7_,s8_,s9_,s10_⟩:=hs
 exact bodyPost_ret (v:=.tuple #[.agg xL,xI 0,xI e1]) (by simp[results,Tryz.results56,go_sem,s0_,s1_,s2_,s3_,s4_,s5_,s6_,s7_,s8_,s9_,s10_]) rfl ⟨rfl,HB2.out.then hbs.drew xl⟩
theorem zkx (b:Nat)(r:RPt)(at':Int)(w:World)(h:Rd w b at' 0):
  Calls Tryz.prog 56 #[xP b,.agg (xR r),.bool true] w fun e w'=>e=.returned (.tuple #[.agg (xR r),xI at',xI 0])∧Onl b w w':=by
 have hlt:=World.block_lt_of_cell? w _ h.1
 have hb0:Below w.heap.size w ((w.alloc (.cells (xR r) 50)).alloc (.cells xL 50)):=(xr.alloc xl _).alloc (by simp) _
 have cN:=zay b true at' 0 ((w.alloc (.cells (xR r) 50)).alloc (.cells xL 50)) (h.below hb0)
 rw[show zai 0 true=0 from rfl]at cN
 have OA:=xh ((zac w r 50 w.heap.size rfl).below (xr.alloc xl (.cells xL 50)))
 have OB:=xh (zac (w.alloc (.cells (xR r) 50)) (⟨0,0,none,0,0,0,none,0,0,none,0,0,0,0,0,0,⟨#[]⟩⟩:RPt) 50 (w.heap.size+1) (by simp))
 have HB:=xh (Onl.of_below b hb0)
 have HL:Hid (b<w.heap.size):=hlt
 clear h hlt hb0
 go_enter Tryz.func56,Tryz.ntmps56
 go_wp2_with (go_at_call 57;refine cN.mono ?_;rintro e w1 ⟨rfl,hR,hO⟩;replace OB:=xh (OB.out.onl hO (by have:=HL.out;omega));replace OA:=xh (OA.out.onl hO (by have:=HL.out;omega));replace HB:=xh (HB.out.trans hO);have R:=xh hR;clear hO hR;obtain⟨z0,z1,zf⟩:=R.out)
 obtain⟨⟨q0,q1,q2,q3,q4,q5,q6,q7,q8,q9,q10⟩,qf⟩:=OA.out
 obtain⟨⟨u0,u1,u2,u3,u4,u5,u6,u7,u8,u9,u10⟩,uf⟩:=OB.out
 have hd1:b≠w.heap.size+1:=by have:=HL.out;omega
 have hd2:w.heap.size+1≠b:=by have:=HL.out;omega
 go_region
 go_wp2_with fail
 have hs:=(OB.out.setall r).1
 have hbs:=zag (b:=w.heap.size+1) (Below.refl w.heap.size w1) (Nat.le_succ _) r
 generalize (xC w1 (w.heap.size+1) (xR r):World)=W5 at*
 obtain⟨s0_,s1_,s2_,s3_,s4_,s5_,s6_,s7_,s8_,s9_,s10_⟩:=hs
 exact bodyPost_ret (v:=.tuple #[.agg (xR r),xI at',xI 0]) (by simp[results,Tryz.results56,go_sem,s0_,s1_,s2_,s3_,s4_,s5_,s6_,s7_,s8_,s9_,s10_]) rfl ⟨rfl,HB.out.then hbs.drew xl⟩
theorem zkq (v:Value)(xs:List Int)(q:Int)(w:World)(hv:Bs w v xs):Calls Tryz.prog 33 #[v,xI q] w (RetN w (zdN xs q)):=by
 obtain⟨a,l,c,rfl⟩:=zal hv
 obtain⟨rfl,-⟩:=za0 hv
 obtain⟨N1,s1,e1,h1⟩:∃x y z,numS xs 1 (q,0)=(x,y,z):=⟨_,_,_,rfl⟩
 obtain⟨N2,s2,e2,h2⟩:∃x y z,numS xs 2 (s1,e1)=(x,y,z):=⟨_,_,_,rfl⟩
 have hx:=hv.1
 obtain⟨o,ho⟩:∃o,zdN xs q=o:=⟨_,rfl⟩
 have HO:Hid ((if e2=0 then(zbp xs s2 N1 N2).map fun p=>(p,s2+N2)else none)=o):=by
  show _=_
  rw[←ho]
  unfold zdN
  simp only[h1,h2]
 rw[ho]
 have HF:Hid (e2=0→(0≤s2∧s2≤xs.length)∧(0≤N2∧N2≤65535)∧1≤xs.length):=fun h0=>by
  have a2:=zfc (n:=2) (by decide) (by decide) h2 h0
  have a1:=zfc (n:=1) (by decide) (by decide) h1 a2.1
  have b1:=zdl hx s1.toNat
  have b2:=zdl hx (s1.toNat+1)
  have b3:=zcR (xs:=xs) (k:=s1.toNat) (by omega)
  refine⟨by omega,?_,by omega⟩
  rw[a2.2.2.2.2,b3];omega
 have c1:∀V,Rd V (w.heap.size+1) q 0→Bs V (.slice a xs.length c) xs→Calls Tryz.prog 31 #[xP (w.heap.size+1),.slice a xs.length c,xI 1] V fun e w'=>e=.returned (xI N1)∧Rd w' (w.heap.size+1) s1 e1∧Onl (w.heap.size+1) V w':=fun V h hv=>by
  have h:=zad (w.heap.size+1) (.slice a xs.length c) xs 1 q 0 V h hv
  rwa [h1]at h
 have c2:∀V,Rd V (w.heap.size+1) s1 e1→Bs V (.slice a xs.length c) xs→Calls Tryz.prog 31 #[xP (w.heap.size+1),.slice a xs.length c,xI 2] V fun e w'=>e=.returned (xI N2)∧Rd w' (w.heap.size+1) s2 e2∧Onl (w.heap.size+1) V w':=fun V h hv=>by
  have h:=zad (w.heap.size+1) (.slice a xs.length c) xs 2 s1 e1 V h hv
  rwa [h2]at h
 have HV:=xh hv
 clear h1 h2 hv ho hx
 go_enter Tryz.func33,Tryz.ntmps33
 go_wp2_with fail
 refine(za6 _ _).mono ?_
 rintro e _ ⟨rfl,rfl⟩
 go_wp2_with fail
 have OR:=xh ((zac w (⟨0,0,none,0,0,0,none,0,0,none,0,0,0,0,0,0,⟨#[]⟩⟩:RPt) 50 w.heap.size rfl).below (xr.alloc xl (.cells #[xI q,xI 0] 89)))
 have R:=xh (zaO (w.alloc (.cells xL 50)) q (w.heap.size+1) (by simp))
 have HB:Hid (Below w.heap.size w ((w.alloc (.cells xL 50)).alloc (.cells #[xI q,xI 0] 89))):=(xr.alloc xl _).alloc (by simp) _
 generalize ((w.alloc (.cells xL 50)).alloc (.cells #[xI q,xI 0] 89))=V0 at*
 refine(c1 _ R.out (zaa HV.out HB.out)).mono ?_
 rintro e V1 ⟨rfl,hR,ho⟩
 replace OR:=xh (OR.out.onl ho (by omega));replace HB:=xh (HB.out.trans (ho.below (by omega) HB.out.size));replace R:=xh hR;clear ho hR
 have HG:Hid ((w.heap.size+1)<V1.heap.size):=World.block_lt_of_cell? V1 _ R.out.1
 go_wp2_with fail
 have hb:Below V1.heap.size V1 (V1.alloc (.cells #[xI N1] 3)):=(Below.refl _ V1).alloc xl _
 have K1:Hid ((V1.alloc (.cells #[xI N1] 3)).cell? (V1.heap.size,0)=xJ N1):=by show _=_;simp
 have HL1:Hid (V1.heap.size<(V1.alloc (.cells #[xI N1] 3)).heap.size):=by show _<_;simp
 replace OR:=xh (OR.out.below hb);replace HB:=xh (HB.out.trans (hb.mono HB.out.size));replace R:=xh (R.out.below hb);clear hb
 generalize V1.alloc (.cells #[xI N1] 3)=V2 at*
 obtain⟨X1,hX1⟩:∃X,V1.heap.size=X:=⟨_,rfl⟩
 rw[hX1]at HG K1 HL1
 simp only[hX1]
 clear hX1
 refine(c2 _ R.out (zaa HV.out HB.out)).mono ?_
 rintro e V3 ⟨rfl,hR,ho⟩
 have K13:Hid (V3.cell? (xQ X1 0)=xJ N1):=by show _=_;rw[ho.cell (p:=xQ X1 0) (by have:=HG.out;simp only;omega) HL1.out];exact K1.out
 replace HL1:Hid (X1<V3.heap.size):=Nat.lt_of_lt_of_le HL1.out ho.size
 replace OR:=xh (OR.out.onl ho (by omega));replace HB:=xh (HB.out.trans (ho.below (by omega) HB.out.size));replace R:=xh hR;clear ho hR K1
 go_wp2_with fail
 have hb:Below V3.heap.size V3 (V3.alloc (.cells #[xI N2] 3)):=(Below.refl _ V3).alloc xl _
 have K2:Hid ((V3.alloc (.cells #[xI N2] 3)).cell? (V3.heap.size,0)=xJ N2):=by show _=_;simp
 have K1:Hid ((V3.alloc (.cells #[xI N2] 3)).cell? (xQ X1 0)=xJ N1):=by show _=_;rw[hb.cell (p:=xQ X1 0) HL1.out];exact K13.out
 have HG4:Hid ((w.heap.size+1)<(V3.alloc (.cells #[xI N2] 3)).heap.size):=Nat.lt_of_lt_of_le (World.block_lt_of_cell? V3 _ R.out.1) hb.size
 replace OR:=xh (OR.out.below hb);replace HB:=xh (HB.out.trans (hb.mono HB.out.size));replace R:=xh (R.out.below hb);clear hb K13
 generalize V3.alloc (.cells #[xI N2] 3)=V4 at*
 obtain⟨X2,hX2⟩:∃X,V3.heap.size=X:=⟨_,rfl⟩
 rw[hX2]at K2
 simp only[hX2]
 clear hX2 HL1
 have HV4:=xh (zaa HV.out HB.out)
 have cX:=zkQ (w.heap.size+1) (.slice a xs.length c) xs s2 e2 X1 X2 ((zbp xs s2 N1 N2).map fun p=>(p,s2+N2)) V4 R.out HV4.out (fun h0 V hb=>znU (.slice a xs.length c) xs s2 N1 N2 X1 X2 V (by rw[hb.cell (p:=xQ X1 0) (World.block_lt_of_cell? V4 _ K1.out)];exact K1.out) (by rw[hb.cell (p:=xQ X2 0) (World.block_lt_of_cell? V4 _ K2.out)];exact K2.out) (zaa HV4.out hb) (HF.out h0).1 (HF.out h0).2.1 (HF.out h0).2.2)
 rw[HO.out]at cX
 refine cX.mono ?_
 rintro e V5 ⟨r,T,K,rfl,how,hst,hR,ho⟩
 replace OR:=xh (OR.out.onl ho (by omega));replace HB:=xh (HB.out.trans (ho.below (by omega) HB.out.size));replace R:=xh hR
 have HW:=xh how
 have HST:=xh hst
 clear ho hR how hst cX c1 c2 K1 K2 HV4 HV HO HF
 have hb:Below V5.heap.size V5 (V5.alloc (.cells (xR r) 50)):=(Below.refl _ V5).alloc xl _
 have OV:=xh (zac V5 r 50 V5.heap.size rfl)
 replace OR:=xh (OR.out.below hb);replace HB:=xh (HB.out.trans (hb.mono HB.out.size));replace R:=xh (R.out.below hb);replace HW:=xh (HW.out.below hb);clear hb
 by_cases hK:K=0
 ·subst hK
  have HP:Hid (∃x,o=some x∧T=x.2):=by
   have h9:=HST.out
   unfold StOk at h9
   cases o with
   | none=>exact absurd rfl h9
   | some x=>exact⟨x,rfl,h9.1⟩
  have cD:=xh (zkx (w.heap.size+1) r T _ R.out)
  go_wp2_with fail
  refine cD.out.mono ?_
  rintro e V7 ⟨rfl,ho⟩
  have OR7:=xh (OR.out.onl ho (by omega))
  have HB7:=xh (HB.out.trans (ho.below (by omega) HB.out.size))
  have HW7:=xh (HW.out.onl ho HG4.out)
  clear ho cD
  obtain⟨⟨u0,u1,u2,u3,u4,u5,u6,u7,u8,u9,u10⟩,uf⟩:=OR7.out
  go_wp2_with fail
  have hs:=(OR7.out.setall r).1
  have hbs:=zag (b:=w.heap.size) HB7.out xl r
  have hho:=zaT HW7.out (b:=w.heap.size) (by have:=HG4.out;omega) r
  generalize (xC V7 w.heap.size (xR r):World)=W5 at*
  obtain⟨s0_,s1_,s2_,s3_,s4_,s5_,s6_,s7_,s8_,s9_,s10_⟩:=hs
  exact bodyPost_ret (v:=.tuple #[.agg (xR r),xI T,xI 0]) (by simp[results,Tryz.results33,go_sem,s0_,s1_,s2_,s3_,s4_,s5_,s6_,s7_,s8_,s9_,s10_]) rfl ⟨⟨r,T,0,rfl,hho.mono (by have:=HG4.out;omega),HST.out⟩,hbs⟩
 ·have HP:Hid (o=none):=by
   have h9:=HST.out
   unfold StOk at h9
   cases o with
   | none=>rfl
   | some x=>exact absurd h9.2 hK
  have HKK:=xh hK
  have cD:=xh (ziP (w.heap.size+1) r T K _ R.out hK)
  clear hK
  go_wp2_with fail
  refine cD.out.mono ?_
  rintro e V7 ⟨rfl,ho⟩
  have OR7:=xh (OR.out.onl ho (by omega))
  have HB7:=xh (HB.out.trans (ho.below (by omega) HB.out.size))
  clear ho cD
  obtain⟨⟨u0,u1,u2,u3,u4,u5,u6,u7,u8,u9,u10⟩,uf⟩:=OR7.out
  go_wp2_with fail
  have hs:=(OR7.out.setall (⟨0,0,none,0,0,0,none,0,0,none,0,0,0,0,0,0,⟨#[]⟩⟩:RPt)).1
  have hbs:=zag (b:=w.heap.size) HB7.out xl (⟨0,0,none,0,0,0,none,0,0,none,0,0,0,0,0,0,⟨#[]⟩⟩:RPt)
  simp only at hs hbs
  generalize (xC V7 w.heap.size xL:World)=W5 at*
  obtain⟨s0_,s1_,s2_,s3_,s4_,s5_,s6_,s7_,s8_,s9_,s10_⟩:=hs
  exact bodyPost_ret (v:=.tuple #[.agg xL,xI 0,xI K]) (by simp[results,Tryz.results33,go_sem,s0_,s1_,s2_,s3_,s4_,s5_,s6_,s7_,s8_,s9_,s10_]) rfl ⟨⟨(⟨0,0,none,0,0,0,none,0,0,none,0,0,0,0,0,0,⟨#[]⟩⟩:RPt),0,K,rfl,by rw[HP.out];exact zlq _ _,by rw[HP.out];exact HKK.out⟩,hbs⟩
theorem OwnF.onl {w w':World}{b g:Nat}{fr ep to pe:Int}{v:Value}(h:OwnF w g fr ep to pe v)(ho:Onl b w w')(hg:g≠b):OwnF w' g fr ep to pe v:=by
 have hl:=h.lt
 obtain⟨⟨h0,h1,h2,h3,h4⟩,hf⟩:=h
 have f:∀{j:Nat} {v:Value},w.cell? ⟨g,j,none⟩=some v→w'.cell? ⟨g,j,none⟩=some v:=fun{j v} h=>(ho.cell (p:=⟨g,j,none⟩) hg hl).trans h
 exact⟨⟨f h0,f h1,f h2,f h3,f h4⟩,fun j=>(ho.frozen (p:=⟨g,j,none⟩) hg hl).trans (hf j)⟩
theorem zdH (b:Nat)(fr ep to pe:Int)(a:Option Addr)(l c:Nat)(ok:Bool)(at' e0 e1:Int)(w:World)(h:Rd w b at' e0)(hn:zai e0 ok=e1)(he:e1≠0):
  Calls Tryz.prog 34 #[xP b,.agg (xA fr ep to pe (.slice a l c)),.bool ok] w fun e w'=>e=.returned (.tuple #[.agg xF,xI 0,xI e1])∧Onl b w w':=by
 have hne:(e1==0)=false:=by simpa using he
 have hlt:=World.block_lt_of_cell? w _ h.1
 have hb0:Below w.heap.size w ((w.alloc (.cells (xA fr ep to pe (.slice a l c)) 24)).alloc (.cells xF 24)):=(xr.alloc xl _).alloc (by simp) _
 have cN:=zay b ok at' e0 ((w.alloc (.cells (xA fr ep to pe (.slice a l c)) 24)).alloc (.cells xF 24)) (h.below hb0)
 rw[hn]at cN
 have OB:=xh (zav (w.alloc (.cells (xA fr ep to pe (.slice a l c)) 24)) 0 0 0 0 xS 24 (w.heap.size+1) (by simp))
 have HB:=xh (Onl.of_below b hb0)
 have HL:Hid (b<w.heap.size):=hlt
 clear h hn he hlt hb0
 go_enter Tryz.func34,Tryz.ntmps34
 go_wp2_with (go_at_call 57;refine cN.mono ?_;rintro e w1 ⟨rfl,hR,hO⟩;replace OB:=xh (OB.out.onl hO (by have:=HL.out;omega));replace HB:=xh (HB.out.trans hO);have R:=xh hR;clear hO hR;obtain⟨z0,z1,zf⟩:=R.out)
 have OB2:=xh (OB.out.below (xr.alloc xl (.cells xF 24)))
 have OZ:=xh (zav w1 0 0 0 0 xS 24 w1.heap.size rfl)
 have R2:=xh (R.out.alloc (.cells xF 24))
 have HB2:=xh (HB.out.alloc (.cells xF 24))
 have hne2:Hid (w.heap.size+1<w1.heap.size):=OB.out.lt
 clear z0 z1 zf R OB HB
 generalize w1.alloc (.cells xF 24)=V at*
 obtain⟨z0,z1,zf⟩:=R2.out
 obtain⟨⟨q0,q1,q2,q3,q4⟩,qf⟩:=OZ.out
 obtain⟨⟨u0,u1,u2,u3,u4⟩,uf⟩:=OB2.out
 have hd1:b≠w.heap.size+1:=by have:=HL.out;omega
 have hd2:w.heap.size+1≠b:=by have:=HL.out;omega
 go_region
 go_wp2_with fail
 have hs:=(OB2.out.set 0 0 0 0 xS).1
 have hbs:=zaJ (B:=w.heap.size) (Below.refl _ V) (b:=w.heap.size+1) (by omega) 0 0 0 0 xS
 generalize (xC V (w.heap.size+1) xF:World)=W5 at*
 obtain⟨s0_,s1_,s2_,s3_,s4_⟩:=hs
 exact bodyPost_ret (v:=.tuple #[.agg xF,xI 0,xI e1]) (by simp[results,Tryz.results34,go_sem,s0_,s1_,s2_,s3_,s4_]) rfl ⟨rfl,HB2.out.then hbs.drew xl⟩
theorem zkb (b:Nat)(fr ep to pe:Int)(a:Option Addr)(l c:Nat)(at':Int)(w:World)(h:Rd w b at' 0):
  Calls Tryz.prog 34 #[xP b,.agg (xA fr ep to pe (.slice a l c)),.bool true] w fun e w'=>e=.returned (.tuple #[.agg (xA fr ep to pe (.slice a l c)),xI at',xI 0])∧Onl b w w':=by
 have hlt:=World.block_lt_of_cell? w _ h.1
 have hb0:Below w.heap.size w ((w.alloc (.cells (xA fr ep to pe (.slice a l c)) 24)).alloc (.cells xF 24)):=(xr.alloc xl _).alloc (by simp) _
 have cN:=zay b true at' 0 ((w.alloc (.cells (xA fr ep to pe (.slice a l c)) 24)).alloc (.cells xF 24)) (h.below hb0)
 rw[show zai 0 true=0 from rfl]at cN
 have OA:=xh ((zav w fr ep to pe (.slice a l c) 24 w.heap.size rfl).below (xr.alloc xl (.cells xF 24)))
 have OB:=xh (zav (w.alloc (.cells (xA fr ep to pe (.slice a l c)) 24)) 0 0 0 0 xS 24 (w.heap.size+1) (by simp))
 have HB:=xh (Onl.of_below b hb0)
 have HL:Hid (b<w.heap.size):=hlt
 clear h hlt hb0
 go_enter Tryz.func34,Tryz.ntmps34
 go_wp2_with (go_at_call 57;refine cN.mono ?_;rintro e w1 ⟨rfl,hR,hO⟩;replace OB:=xh (OB.out.onl hO (by have:=HL.out;omega));replace OA:=xh (OA.out.onl hO (by have:=HL.out;omega));replace HB:=xh (HB.out.trans hO);have R:=xh hR;clear hO hR;obtain⟨z0,z1,zf⟩:=R.out)
 obtain⟨⟨q0,q1,q2,q3,q4⟩,qf⟩:=OA.out
 obtain⟨⟨u0,u1,u2,u3,u4⟩,uf⟩:=OB.out
 have hd1:b≠w.heap.size+1:=by have:=HL.out;omega
 have hd2:w.heap.size+1≠b:=by have:=HL.out;omega
 go_region
 go_wp2_with fail
 have hs:=(OB.out.set fr ep to pe (.slice a l c)).1
 have hbs:=zaJ (B:=w.heap.size) (Below.refl _ w1) (b:=w.heap.size+1) (by omega) fr ep to pe (.slice a l c)
 generalize (xC w1 (w.heap.size+1) (xA fr ep to pe (.slice a l c)):World)=W5 at*
 obtain⟨s0_,s1_,s2_,s3_,s4_⟩:=hs
 exact bodyPost_ret (v:=.tuple #[.agg (xA fr ep to pe (.slice a l c)),xI at',xI 0]) (by simp[results,Tryz.results34,go_sem,s0_,s1_,s2_,s3_,s4_]) rfl ⟨rfl,HB.out.then hbs.drew xl⟩
theorem zjB {ops:Array Oper}{o:Oper}{a:Act}{W:World}{K:Act→World→Prop}{Q:Exit→Act→World→Prop}{E:Prop}(hgd:o.guard=none)(s x:Operand)
  (ho:o.op=.call {callee:=.builtin .append,args:=#[s,x],argTypes:=#[22,22]}) (w:World) (r:RPt) (p:Pt) (hW:W=w.alloc (.cells r.cl.toArray 50)) (S:Nat) (v:Value) (ps:List Pt) (hr:r.Ow w S p)
  (hs:a.eval s=v) (hx:a.eval x=.slice (some (w.heap.size,0)) 1 1) (hown:PsOw w S v ps) (hl:ps.length≤3000) (hS:S≤w.heap.size)
  (hK:∀g cap w',PsOw w' S (.slice (some (xQ g 0)) (ps.length+1) cap) (ps++[p])→Below S w w'→K (a.put o.dst (.slice (some (xQ g 0)) (ps.length+1) cap)) w'):
  if Region.wanted o (yielded ops a.tmps)=true then Oper.wp Tryz.prog o a W K Q else E:=by
 have hw:Region.wanted o (yielded ops a.tmps)=true:=by simp[Region.wanted,hgd]
 rw[if_pos hw]
 subst hW
 obtain⟨rs,h1,h2,h3⟩:=hown
 have hb:Below S w (w.alloc (.cells (RP.cl r).toArray 50)):=(Below.refl S w).alloc hS _
 have hb0:Below w.heap.size w (w.alloc (.cells (RP.cl r).toArray 50)):=xr.alloc xl _
 have hown':(w.alloc (.cells (RP.cl r).toArray 50)).ownsRow S RP.T RP.K v rs.length (zaA RP rs):=zae h2 hb0
 obtain⟨g,cap,w',hrun,h4,h5,_⟩:=zej (R:=RP) (w.alloc (.cells (RP.cl r).toArray 50)) o.type S v rs hown' w.heap.size r (zcT RP w r _ rfl 50) (Nat.le_trans (Nat.le_of_eq h1) hl) (by simp;omega)
 unfold Oper.wp
 have he:=zbL (w:=w.alloc (.cells (RP.cl r).toArray 50)) ho hs hx hrun
 rw[show(RPt.cl r)=RP.cl r from rfl,he]
 have h1':List.length (α:=RP.α) rs=ps.length:=h1
 have hve:Value.slice (some (xQ g 0)) (List.length (α:=RP.α) rs+1) cap=.slice (some (xQ g 0)) (ps.length+1) cap:=by rw[h1']
 rw[hve]at h4 ⊢
 refine hK g cap w' ⟨rs++[r],by simp[h1],h4,fun i hi=>?_⟩ (hb.grown h5 (by simp;omega) (fun k hk=>(hown'.lt k hk).1))
 by_cases hi2:i<ps.length
 ·rw[show(rs++[r]).getD i zR=rs.getD i zR by simp[List.getD,List.getElem?_append,h1,hi2],show(ps++[p]).getD i zPt=ps.getD i zPt by simp[List.getD,List.getElem?_append,hi2]]
  exact((h3 i hi2).below hb0).kept hown' h5
 ·have hi3:i=ps.length:=by simp at hi;omega
  subst hi3
  rw[show(rs++[r]).getD ps.length zR=r by simp[List.getD,h1],show(ps++[p]).getD ps.length zPt=p by simp[List.getD]]
  exact(hr.below hb0).kept hown' h5
theorem PsOw.onl {w w':World}{b S:Nat}{v:Value}{ps:List Pt}(h:PsOw w S v ps)(ho:Onl b w w')(hb:b<S):PsOw w' S v ps:=by
 obtain⟨rs,h1,h2,h3⟩:=h
 exact⟨rs,h1,zaY h2 ho hb,fun i hi=>(h3 i hi).onl ho hb⟩
theorem znR:zaR zPt:=⟨by decide,by decide,by decide,by decide⟩
theorem zeh {p:Pt}(h:p.Ok):zaR p:=by
 unfold zaR
 rcases h with ⟨_,h,h2,h3,h4⟩|⟨_,h1,h,h3,h4⟩|⟨_,h1,h2,h,h4⟩|⟨_,h1,h2,h3,h⟩
 ·have:=h.len;have:=h2.2;have:=h3;unfold Pt.noAk at h3;have hx:=h4.2.2.2.2
  refine⟨by omega,by omega,by omega,by rw[hx];decide⟩
 ·have:=h.2.1;have:=h1.2;unfold Pt.noAk at h3;have hx:=h4.2.2.2.2
  refine⟨by omega,by omega,by omega,by rw[hx];decide⟩
 ·have:=h.2;have:=h1.2;have:=h2.2;have hx:=h4.2.2.2.2
  refine⟨by omega,by omega,by omega,by rw[hx];decide⟩
 ·have:=h.2.2.2.2;have:=h1.2;have:=h2.2;unfold Pt.noAk at h3
  refine⟨by omega,by omega,by omega,by omega⟩
end Go.Proofs.YtjghebcnmoojmaaGreat
