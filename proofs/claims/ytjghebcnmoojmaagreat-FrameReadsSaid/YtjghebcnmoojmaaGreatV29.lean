/- An object out of bytes: -/
import Derived.Test.YtjghebcnmoojmaaGreatV13
import Derived.Test.YtjghebcnmoojmaaGreatV19
set_option maxRecDepth 100000
set_option maxHeartbeats 32000000
namespace Go.Proofs.YtjghebcnmoojmaaGreat
open Go.RowKit MX
section
open Go.Sort
def oend (k x:Int)(n:Bool)(t o r d i p q s m to:Int):OP:=if ObOk k x n t o r d i p q s m then⟨k,x,n,t,o,r,d,i,p,q,s,m,to,0⟩else .no 4
def oPFh (x:Int)(P:PR):OP:=if P.e≠0 then .no P.e else oend 2 x P.n P.t P.o P.r P.d P.i 0 0 0 0 P.to
def oPF4 (xs:List Int)(x:Int)(P:PR):OP:=if P.e≠0 then .no P.e else if(getS xs P.to 2).2.2≠0 then .no (getS xs P.to 2).2.2 else oend 4 x P.n P.t P.o P.r P.d P.i 0 0 0 (getS xs P.to 2).1 (getS xs P.to 2).2.1
def oPF3 (xs:List Int)(x:Int)(u:Int×Int×Int):OP:=
 if u.2.2≠0 then .no u.2.2
 else if(getS xs u.2.1 1).2.2≠0 then .no (getS xs u.2.1 1).2.2
 else if(getS xs (getS xs u.2.1 1).2.1 1).2.2≠0 then .no (getS xs (getS xs u.2.1 1).2.1 1).2.2
 else oend 3 x false 0 0 0 0 0 u.1 (getS xs u.2.1 1).1 (getS xs (getS xs u.2.1 1).2.1 1).1 0 (getS xs (getS xs u.2.1 1).2.1 1).2.1
def oPF2 (xs:List Int)(k:Int)(u:Int×Int×Int):OP:=
 if u.2.2≠0 then .no u.2.2
 else if k=1 then oend 1 u.1 false 0 0 0 0 0 0 0 0 0 u.2.1
 else if k=2 then oPFh u.1 (zaG xs u.2.1)
 else if k=3 then oPF3 xs u.1 (zaH xs u.2.1)
 else oPF4 xs u.1 (zaG xs u.2.1)
def oPF (xs:List Int)(q:Int):OP:=
 if(getS xs q 1).2.2≠0 then .no (getS xs q 1).2.2
 else if(getS xs q 1).1<1∨(getS xs q 1).1>4 then .no 4
 else oPF2 xs (getS xs q 1).1 (getS xs (getS xs q 1).2.1 1)
theorem zgO (v:Value)(xs:List Int)(q:Int)(w:World)(hv:Bs w v xs):
  Calls Tryz.prog 74 #[v,xI q] w fun e w'=>e=.returned (oPF xs q).v∧Below w.heap.size w w':=by
 obtain⟨a,l,c,rfl⟩:=zal hv
 have HV:=xh hv
 have OR:Hid (Own12 (w.alloc (.cells xZ 63)) w.heap.size 0 0 false 0 0 0 0 0 0 0 0 0):=zah w 0 0 false 0 0 0 0 0 0 0 0 0 63 w.heap.size rfl
 have HB:Hid (Below w.heap.size w (w.alloc (.cells xZ 63))):=xr.alloc xl _
 clear hv
 obtain⟨V1,hV1⟩:∃V1,w.alloc (.cells xZ 63)=V1:=⟨_,rfl⟩
 rw[hV1]at OR HB
 obtain⟨⟨k,q1,e1⟩,gg⟩:∃r,getS xs q 1=r:=⟨_,rfl⟩
 have cc:=xh (zaF (.slice a l c) xs q 1 V1 (zaa HV.out HB.out))
 rw[gg]at cc
 simp only[tri]at cc
 have G1:=xh gg
 clear gg
 go_enter Tryz.func74,Tryz.ntmps74
 go_wp2_with fail
 clear hV1
 refine cc.out.mono ?_
 rintro e w' ⟨rfl,hw⟩
 subst hw
 clear cc
 by_cases h1:e1=0
 ·subst h1
  by_cases hk:k<1∨k>4
  ·skip
   have HP:Hid (oPF xs q=.no 4):=by
    show _=_
    simp only[oPF,G1.out]
    rw[if_neg (by simp),if_pos hk]
   by_cases hk1:k<1
   ·skip
    obtain⟨⟨r0_,r1_,r2_,r3_,r4_,r5_,r6_,r7_,r8_,r9_,r10_,r11_⟩,rf_⟩:=OR.out
    go_wp2_with fail
    have hs:=(OR.out.setall 0 0 false 0 0 0 0 0 0 0 0 0).1
    have hbs:Below w.heap.size w (xC V1 w.heap.size xZ):=(xC12 HB.out xl)
    generalize (xC V1 w.heap.size xZ:World)=W5 at*
    obtain⟨s0_,s1_,s2_,s3_,s4_,s5_,s6_,s7_,s8_,s9_,s10_,s11_⟩:=hs
    exact bodyPost_ret (v:=.tuple #[.agg xZ,xI 0,xI 4]) (by simp[results,Tryz.results74,go_sem,s0_,s1_,s2_,s3_,s4_,s5_,s6_,s7_,s8_,s9_,s10_,s11_]) rfl ⟨by rw[HP.out];rfl,hbs⟩
   ·have hk1':decide (k<1)=false:=decide_eq_false hk1
    have hk2:k>4:=by omega
    obtain⟨⟨r0_,r1_,r2_,r3_,r4_,r5_,r6_,r7_,r8_,r9_,r10_,r11_⟩,rf_⟩:=OR.out
    go_wp2_with fail
    have hs:=(OR.out.setall 0 0 false 0 0 0 0 0 0 0 0 0).1
    have hbs:Below w.heap.size w (xC V1 w.heap.size xZ):=(xC12 HB.out xl)
    generalize (xC V1 w.heap.size xZ:World)=W5 at*
    obtain⟨s0_,s1_,s2_,s3_,s4_,s5_,s6_,s7_,s8_,s9_,s10_,s11_⟩:=hs
    exact bodyPost_ret (v:=.tuple #[.agg xZ,xI 0,xI 4]) (by simp[results,Tryz.results74,go_sem,s0_,s1_,s2_,s3_,s4_,s5_,s6_,s7_,s8_,s9_,s10_,s11_]) rfl ⟨by rw[HP.out];rfl,hbs⟩
  ·have hkk:k=1∨k=2∨k=3∨k=4:=by omega
   clear hk
   rcases hkk with rfl|rfl|rfl|rfl
   ·skip
    obtain⟨⟨x,q2,e2⟩,gg⟩:∃r,getS xs q1 1=r:=⟨_,rfl⟩
    have cc:=xh (zaF (.slice a l c) xs q1 1 V1 (zaa HV.out HB.out))
    rw[gg]at cc
    simp only[tri]at cc
    have G2:=xh gg
    clear gg
    go_wp2_with fail
    refine cc.out.mono ?_
    rintro e w' ⟨rfl,hw⟩
    subst hw
    clear cc
    by_cases h2:e2=0
    ·subst h2
     have OH:=xh (zah V1 1 x false 0 0 0 0 0 0 0 0 0 63 V1.heap.size rfl)
     have hal:Below V1.heap.size V1 (V1.alloc (.cells (xO 1 x false 0 0 0 0 0 0 0 0 0) 63)):=(Below.refl _ V1).alloc xl _
     have LT:Hid (w.heap.size<V1.heap.size):=OR.out.lt
     replace OR:=xh (OR.out.below hal)
     replace HB:=xh (HB.out.trans (hal.mono HB.out.size))
     clear hal
     obtain⟨g1,hg⟩:∃g1,V1.heap.size=g1:=⟨_,rfl⟩
     obtain⟨V2,hV2⟩:∃V2,V1.alloc (.cells (xO 1 x false 0 0 0 0 0 0 0 0 0) 63)=V2:=⟨_,rfl⟩
     rw[hV2]at OH OR HB
     rw[hg]at OH LT
     have HV2:=xh hV2
     have HG2:=xh hg
     clear hV2 hg
     obtain⟨⟨i0_,i1_,i2_,i3_,i4_,i5_,i6_,i7_,i8_,i9_,i10_,i11_⟩,if_⟩:=OH.out
     go_wp2_with fail
     clear i0_ i1_ i2_ i3_ i4_ i5_ i6_ i7_ i8_ i9_ i10_ i11_ if_
     simp only[HV2.out,HG2.out]
     refine(zbo 1 x false 0 0 0 0 0 0 0 0 0 _).mono ?_
     rintro e W8 ⟨rfl,hb⟩
     replace OH:=xh (OH.out.below hb)
     replace OR:=xh (OR.out.below hb)
     replace HB:=xh (HB.out.trans (hb.mono HB.out.size))
     clear hb
     by_cases hok:ObOk 1 x false 0 0 0 0 0 0 0 0 0
     ·have HP:Hid (oPF xs q=⟨1,x,false,0,0,0,0,0,0,0,0,0,q2,0⟩):=by
       show _=_
       simp[oPF,oPF2,oend,G1.out,G2.out,hok]
      rw[decide_eq_true hok]
      obtain⟨⟨i0_,i1_,i2_,i3_,i4_,i5_,i6_,i7_,i8_,i9_,i10_,i11_⟩,if_⟩:=OH.out
      obtain⟨⟨r0_,r1_,r2_,r3_,r4_,r5_,r6_,r7_,r8_,r9_,r10_,r11_⟩,rf_⟩:=OR.out
      go_wp2_with fail
      have hs:=(OR.out.setall 1 x false 0 0 0 0 0 0 0 0 0).1
      have hbs:Below w.heap.size w (xC W8 w.heap.size (xO 1 x false 0 0 0 0 0 0 0 0 0)):=(xC12 HB.out xl)
      generalize (xC W8 w.heap.size (xO 1 x false 0 0 0 0 0 0 0 0 0):World)=W5 at*
      obtain⟨s0_,s1_,s2_,s3_,s4_,s5_,s6_,s7_,s8_,s9_,s10_,s11_⟩:=hs
      exact bodyPost_ret (v:=.tuple #[.agg (xO 1 x false 0 0 0 0 0 0 0 0 0),xI q2,xI 0]) (by simp[results,Tryz.results74,go_sem,s0_,s1_,s2_,s3_,s4_,s5_,s6_,s7_,s8_,s9_,s10_,s11_]) rfl ⟨by rw[HP.out];rfl,hbs⟩
     ·have HP:Hid (oPF xs q=.no 4):=by
       show _=_
       simp[oPF,oPF2,oend,OP.no,G1.out,G2.out,hok]
      rw[decide_eq_false hok]
      obtain⟨⟨r0_,r1_,r2_,r3_,r4_,r5_,r6_,r7_,r8_,r9_,r10_,r11_⟩,rf_⟩:=OR.out
      go_wp2_with fail
      have hs:=(OR.out.setall 0 0 false 0 0 0 0 0 0 0 0 0).1
      have hbs:Below w.heap.size w (xC W8 w.heap.size xZ):=(xC12 HB.out xl)
      generalize (xC W8 w.heap.size xZ:World)=W5 at*
      obtain⟨s0_,s1_,s2_,s3_,s4_,s5_,s6_,s7_,s8_,s9_,s10_,s11_⟩:=hs
      exact bodyPost_ret (v:=.tuple #[.agg xZ,xI 0,xI 4]) (by simp[results,Tryz.results74,go_sem,s0_,s1_,s2_,s3_,s4_,s5_,s6_,s7_,s8_,s9_,s10_,s11_]) rfl ⟨by rw[HP.out];rfl,hbs⟩
    ·skip
     have h2':(e2 !=0)=true:=by simpa using h2
     have HP:Hid (oPF xs q=.no e2):=by
      show _=_
      simp[oPF,oPF2,OP.no,G1.out,G2.out,h2]
     obtain⟨⟨r0_,r1_,r2_,r3_,r4_,r5_,r6_,r7_,r8_,r9_,r10_,r11_⟩,rf_⟩:=OR.out
     go_wp2_with fail
     have hs:=(OR.out.setall 0 0 false 0 0 0 0 0 0 0 0 0).1
     have hbs:Below w.heap.size w (xC V1 w.heap.size xZ):=(xC12 HB.out xl)
     generalize (xC V1 w.heap.size xZ:World)=W5 at*
     obtain⟨s0_,s1_,s2_,s3_,s4_,s5_,s6_,s7_,s8_,s9_,s10_,s11_⟩:=hs
     exact bodyPost_ret (v:=.tuple #[.agg xZ,xI 0,xI e2]) (by simp[results,Tryz.results74,go_sem,s0_,s1_,s2_,s3_,s4_,s5_,s6_,s7_,s8_,s9_,s10_,s11_]) rfl ⟨by rw[HP.out];rfl,hbs⟩
   ·skip
    obtain⟨⟨x,q2,e2⟩,gg⟩:∃r,getS xs q1 1=r:=⟨_,rfl⟩
    have cc:=xh (zaF (.slice a l c) xs q1 1 V1 (zaa HV.out HB.out))
    rw[gg]at cc
    simp only[tri]at cc
    have G2:=xh gg
    clear gg
    go_wp2_with fail
    refine cc.out.mono ?_
    rintro e w' ⟨rfl,hw⟩
    subst hw
    clear cc
    by_cases h2:e2=0
    ·subst h2
     have OH:=xh (zah V1 2 x false 0 0 0 0 0 0 0 0 0 63 V1.heap.size rfl)
     have hal:Below V1.heap.size V1 (V1.alloc (.cells (xO 2 x false 0 0 0 0 0 0 0 0 0) 63)):=(Below.refl _ V1).alloc xl _
     have LT:Hid (w.heap.size<V1.heap.size):=OR.out.lt
     replace OR:=xh (OR.out.below hal)
     replace HB:=xh (HB.out.trans (hal.mono HB.out.size))
     clear hal
     obtain⟨g1,hg⟩:∃g1,V1.heap.size=g1:=⟨_,rfl⟩
     obtain⟨V2,hV2⟩:∃V2,V1.alloc (.cells (xO 2 x false 0 0 0 0 0 0 0 0 0) 63)=V2:=⟨_,rfl⟩
     rw[hV2]at OH OR HB
     rw[hg]at OH LT
     have HV2:=xh hV2
     have HG2:=xh hg
     clear hV2 hg
     obtain⟨⟨pn,pt,po,pr,pd,pi,q3,e3⟩,gp⟩:∃P,zaG xs q2=P:=⟨_,rfl⟩
     have cc:=xh (zen (.slice a l c) xs q2 V2 (zaa HV.out HB.out))
     rw[gp]at cc
     simp only[PR.v]at cc
     have G3:=xh gp
     clear gp
     go_wp2_with fail
     simp only[HV2.out,HG2.out]
     refine cc.out.mono ?_
     rintro e V3 ⟨rfl,hb⟩
     clear cc
     replace OH:=xh (OH.out.below hb)
     replace OR:=xh (OR.out.below hb)
     replace HB:=xh (HB.out.trans (hb.mono HB.out.size))
     clear hb
     have H6:=xh (zar V3 pn pt po pr pd pi 59 V3.heap.size rfl)
     have hal:Below V3.heap.size V3 (V3.alloc (.cells (xB pn pt po pr pd pi) 59)):=(Below.refl _ V3).alloc xl _
     have LT2:Hid (g1<V3.heap.size):=OH.out.lt
     replace OH:=xh (OH.out.below hal)
     replace OR:=xh (OR.out.below hal)
     replace HB:=xh (HB.out.trans (hal.mono HB.out.size))
     clear hal
     by_cases h3:e3=0
     ·subst h3
      obtain⟨⟨t0_,t1_,t2_,t3_,t4_,t5_⟩,tf_⟩:=H6.out
      obtain⟨V4,hV4⟩:∃V4,V3.alloc (.cells (xB pn pt po pr pd pi) 59)=V4:=⟨_,rfl⟩
      rw[hV4]at OH OR HB t0_ t1_ t2_ t3_ t4_ t5_ tf_
      have hne:V3.heap.size≠g1:=Nat.ne_of_gt LT2.out
      have OX:=xh (OH.out.seth pn pt po pr pd pi)
      have hon:Onl g1 V4 ((((((V4.setCell (xQ g1 2) (.bool pn)).setCell (xQ g1 3) (xI pt)).setCell (xQ g1 4) (xI po)).setCell (xQ g1 5) (xI pr)).setCell (xQ g1 6) (xI pd)).setCell (xQ g1 7) (xI pi)):=((((((Onl.refl g1 V4).set 2 _).set 3 _).set 4 _).set 5 _).set 6 _).set 7 _
      have OY:Hid (Own12 ((((((V4.setCell (xQ g1 2) (.bool pn)).setCell (xQ g1 3) (xI pt)).setCell (xQ g1 4) (xI po)).setCell (xQ g1 5) (xI pr)).setCell (xQ g1 6) (xI pd)).setCell (xQ g1 7) (xI pi)) w.heap.size 0 0 false 0 0 0 0 0 0 0 0 0):=OR.out.onl hon (Nat.ne_of_lt LT.out)
      have HY:Hid (Below w.heap.size w ((((((V4.setCell (xQ g1 2) (.bool pn)).setCell (xQ g1 3) (xI pt)).setCell (xQ g1 4) (xI po)).setCell (xQ g1 5) (xI pr)).setCell (xQ g1 6) (xI pd)).setCell (xQ g1 7) (xI pi))):=HB.out.trans (hon.below (Nat.le_of_lt LT.out) HB.out.size)
      obtain⟨⟨u0_,u1_,u2_,u3_,u4_,u5_,u6_,u7_,u8_,u9_,u10_,u11_⟩,uf_⟩:=OH.out
      clear hon
      obtain⟨V5,hN⟩:∃V5,((((((V4.setCell (xQ g1 2) (.bool pn)).setCell (xQ g1 3) (xI pt)).setCell (xQ g1 4) (xI po)).setCell (xQ g1 5) (xI pr)).setCell (xQ g1 6) (xI pd)).setCell (xQ g1 7) (xI pi))=V5:=⟨_,rfl⟩
      rw[hN]at OX OY HY
      replace OR:=OY
      replace HB:=HY
      replace OH:=OX
      clear OY HY OX
      obtain⟨⟨i0_,i1_,i2_,i3_,i4_,i5_,i6_,i7_,i8_,i9_,i10_,i11_⟩,if_⟩:=OH.out
      go_wp2_with fail
      clear hN u0_ u1_ u2_ u3_ u4_ u5_ u6_ u7_ u8_ u9_ u10_ u11_ uf_
      clear hV4 t0_ t1_ t2_ t3_ t4_ t5_ tf_
      clear i0_ i1_ i2_ i3_ i4_ i5_ i6_ i7_ i8_ i9_ i10_ i11_ if_
      refine(zbo 2 x pn pt po pr pd pi 0 0 0 0 _).mono ?_
      rintro e W8 ⟨rfl,hb⟩
      replace OH:=xh (OH.out.below hb)
      replace OR:=xh (OR.out.below hb)
      replace HB:=xh (HB.out.trans (hb.mono HB.out.size))
      clear hb
      by_cases hok:ObOk 2 x pn pt po pr pd pi 0 0 0 0
      ·have HP:Hid (oPF xs q=⟨2,x,pn,pt,po,pr,pd,pi,0,0,0,0,q3,0⟩):=by
        show _=_
        simp[oPF,oPF2,oPFh,oend,G1.out,G2.out,G3.out,hok]
       rw[decide_eq_true hok]
       obtain⟨⟨i0_,i1_,i2_,i3_,i4_,i5_,i6_,i7_,i8_,i9_,i10_,i11_⟩,if_⟩:=OH.out
       obtain⟨⟨r0_,r1_,r2_,r3_,r4_,r5_,r6_,r7_,r8_,r9_,r10_,r11_⟩,rf_⟩:=OR.out
       go_wp2_with fail
       have hs:=(OR.out.setall 2 x pn pt po pr pd pi 0 0 0 0).1
       have hbs:Below w.heap.size w (xC W8 w.heap.size (xO 2 x pn pt po pr pd pi 0 0 0 0)):=(xC12 HB.out xl)
       generalize (xC W8 w.heap.size (xO 2 x pn pt po pr pd pi 0 0 0 0):World)=W5 at*
       obtain⟨s0_,s1_,s2_,s3_,s4_,s5_,s6_,s7_,s8_,s9_,s10_,s11_⟩:=hs
       exact bodyPost_ret (v:=.tuple #[.agg (xO 2 x pn pt po pr pd pi 0 0 0 0),xI q3,xI 0]) (by simp[results,Tryz.results74,go_sem,s0_,s1_,s2_,s3_,s4_,s5_,s6_,s7_,s8_,s9_,s10_,s11_]) rfl ⟨by rw[HP.out];rfl,hbs⟩
      ·have HP:Hid (oPF xs q=.no 4):=by
        show _=_
        simp[oPF,oPF2,oPFh,oend,OP.no,G1.out,G2.out,G3.out,hok]
       rw[decide_eq_false hok]
       obtain⟨⟨r0_,r1_,r2_,r3_,r4_,r5_,r6_,r7_,r8_,r9_,r10_,r11_⟩,rf_⟩:=OR.out
       go_wp2_with fail
       have hs:=(OR.out.setall 0 0 false 0 0 0 0 0 0 0 0 0).1
       have hbs:Below w.heap.size w (xC W8 w.heap.size xZ):=(xC12 HB.out xl)
       generalize (xC W8 w.heap.size xZ:World)=W5 at*
       obtain⟨s0_,s1_,s2_,s3_,s4_,s5_,s6_,s7_,s8_,s9_,s10_,s11_⟩:=hs
       exact bodyPost_ret (v:=.tuple #[.agg xZ,xI 0,xI 4]) (by simp[results,Tryz.results74,go_sem,s0_,s1_,s2_,s3_,s4_,s5_,s6_,s7_,s8_,s9_,s10_,s11_]) rfl ⟨by rw[HP.out];rfl,hbs⟩
     ·skip
      have h3':(e3 !=0)=true:=by simpa using h3
      have HP:Hid (oPF xs q=.no e3):=by
       show _=_
       simp[oPF,oPF2,oPFh,OP.no,G1.out,G2.out,G3.out,h3]
      obtain⟨⟨r0_,r1_,r2_,r3_,r4_,r5_,r6_,r7_,r8_,r9_,r10_,r11_⟩,rf_⟩:=OR.out
      go_wp2_with fail
      have hs:=(OR.out.setall 0 0 false 0 0 0 0 0 0 0 0 0).1
      have hbs:Below w.heap.size w (xC (V3.alloc (.cells (xB pn pt po pr pd pi) 59)) w.heap.size xZ):=(xC12 HB.out xl)
      generalize (xC (V3.alloc (.cells (xB pn pt po pr pd pi) 59)) w.heap.size xZ:World)=W5 at*
      obtain⟨s0_,s1_,s2_,s3_,s4_,s5_,s6_,s7_,s8_,s9_,s10_,s11_⟩:=hs
      exact bodyPost_ret (v:=.tuple #[.agg xZ,xI 0,xI e3]) (by simp[results,Tryz.results74,go_sem,s0_,s1_,s2_,s3_,s4_,s5_,s6_,s7_,s8_,s9_,s10_,s11_]) rfl ⟨by rw[HP.out];rfl,hbs⟩
    ·skip
     have h2':(e2 !=0)=true:=by simpa using h2
     have HP:Hid (oPF xs q=.no e2):=by
      show _=_
      simp[oPF,oPF2,OP.no,G1.out,G2.out,h2]
     obtain⟨⟨r0_,r1_,r2_,r3_,r4_,r5_,r6_,r7_,r8_,r9_,r10_,r11_⟩,rf_⟩:=OR.out
     go_wp2_with fail
     have hs:=(OR.out.setall 0 0 false 0 0 0 0 0 0 0 0 0).1
     have hbs:Below w.heap.size w (xC V1 w.heap.size xZ):=(xC12 HB.out xl)
     generalize (xC V1 w.heap.size xZ:World)=W5 at*
     obtain⟨s0_,s1_,s2_,s3_,s4_,s5_,s6_,s7_,s8_,s9_,s10_,s11_⟩:=hs
     exact bodyPost_ret (v:=.tuple #[.agg xZ,xI 0,xI e2]) (by simp[results,Tryz.results74,go_sem,s0_,s1_,s2_,s3_,s4_,s5_,s6_,s7_,s8_,s9_,s10_,s11_]) rfl ⟨by rw[HP.out];rfl,hbs⟩
   ·skip
    obtain⟨⟨x,q2,e2⟩,gg⟩:∃r,getS xs q1 1=r:=⟨_,rfl⟩
    have cc:=xh (zaF (.slice a l c) xs q1 1 V1 (zaa HV.out HB.out))
    rw[gg]at cc
    simp only[tri]at cc
    have G2:=xh gg
    clear gg
    go_wp2_with fail
    refine cc.out.mono ?_
    rintro e w' ⟨rfl,hw⟩
    subst hw
    clear cc
    by_cases h2:e2=0
    ·subst h2
     have OH:=xh (zah V1 3 x false 0 0 0 0 0 0 0 0 0 63 V1.heap.size rfl)
     have hal:Below V1.heap.size V1 (V1.alloc (.cells (xO 3 x false 0 0 0 0 0 0 0 0 0) 63)):=(Below.refl _ V1).alloc xl _
     have LT:Hid (w.heap.size<V1.heap.size):=OR.out.lt
     replace OR:=xh (OR.out.below hal)
     replace HB:=xh (HB.out.trans (hal.mono HB.out.size))
     clear hal
     obtain⟨g1,hg⟩:∃g1,V1.heap.size=g1:=⟨_,rfl⟩
     obtain⟨V2,hV2⟩:∃V2,V1.alloc (.cells (xO 3 x false 0 0 0 0 0 0 0 0 0) 63)=V2:=⟨_,rfl⟩
     rw[hV2]at OH OR HB
     rw[hg]at OH LT
     have HV2:=xh hV2
     have HG2:=xh hg
     clear hV2 hg
     obtain⟨⟨t,q3,e3⟩,gg⟩:∃r,zaH xs q2=r:=⟨_,rfl⟩
     have cc:=xh (zdb (.slice a l c) xs q2 V2 (zaa HV.out HB.out))
     rw[gg]at cc
     simp only[tri]at cc
     have G3:=xh gg
     clear gg
     go_wp2_with fail
     simp only[HV2.out,HG2.out]
     refine cc.out.mono ?_
     rintro e w' ⟨rfl,hw⟩
     subst hw
     clear cc
     by_cases h3:e3=0
     ·subst h3
      obtain⟨⟨o,q4,e4⟩,gg⟩:∃r,getS xs q3 1=r:=⟨_,rfl⟩
      have cc:=xh (zaF (.slice a l c) xs q3 1 V2 (zaa HV.out HB.out))
      rw[gg]at cc
      simp only[tri]at cc
      have G4:=xh gg
      clear gg
      go_wp2_with fail
      refine cc.out.mono ?_
      rintro e w' ⟨rfl,hw⟩
      subst hw
      clear cc
      by_cases h4:e4=0
      ·subst h4
       obtain⟨⟨r,q5,e5⟩,gg⟩:∃r,getS xs q4 1=r:=⟨_,rfl⟩
       have cc:=xh (zaF (.slice a l c) xs q4 1 V2 (zaa HV.out HB.out))
       rw[gg]at cc
       simp only[tri]at cc
       have G5:=xh gg
       clear gg
       go_wp2_with fail
       refine cc.out.mono ?_
       rintro e w' ⟨rfl,hw⟩
       subst hw
       clear cc
       by_cases h5:e5=0
       ·subst h5
        have OX:=xh (OH.out.setl t o r)
        have hon:Onl g1 V2 (((V2.setCell (xQ g1 8) (xI t)).setCell (xQ g1 9) (xI o)).setCell (xQ g1 10) (xI r)):=(((Onl.refl g1 V2).set 8 _).set 9 _).set 10 _
        have OY:Hid (Own12 (((V2.setCell (xQ g1 8) (xI t)).setCell (xQ g1 9) (xI o)).setCell (xQ g1 10) (xI r)) w.heap.size 0 0 false 0 0 0 0 0 0 0 0 0):=OR.out.onl hon (Nat.ne_of_lt LT.out)
        have HY:Hid (Below w.heap.size w (((V2.setCell (xQ g1 8) (xI t)).setCell (xQ g1 9) (xI o)).setCell (xQ g1 10) (xI r))):=HB.out.trans (hon.below (Nat.le_of_lt LT.out) HB.out.size)
        obtain⟨⟨u0_,u1_,u2_,u3_,u4_,u5_,u6_,u7_,u8_,u9_,u10_,u11_⟩,uf_⟩:=OH.out
        clear hon
        obtain⟨V5,hN⟩:∃V5,(((V2.setCell (xQ g1 8) (xI t)).setCell (xQ g1 9) (xI o)).setCell (xQ g1 10) (xI r))=V5:=⟨_,rfl⟩
        rw[hN]at OX OY HY
        replace OR:=OY
        replace HB:=HY
        replace OH:=OX
        clear OY HY OX
        obtain⟨⟨i0_,i1_,i2_,i3_,i4_,i5_,i6_,i7_,i8_,i9_,i10_,i11_⟩,if_⟩:=OH.out
        go_wp2_with fail
        clear hN u0_ u1_ u2_ u3_ u4_ u5_ u6_ u7_ u8_ u9_ u10_ u11_ uf_
        clear i0_ i1_ i2_ i3_ i4_ i5_ i6_ i7_ i8_ i9_ i10_ i11_ if_
        refine(zbo 3 x false 0 0 0 0 0 t o r 0 _).mono ?_
        rintro e W8 ⟨rfl,hb⟩
        replace OH:=xh (OH.out.below hb)
        replace OR:=xh (OR.out.below hb)
        replace HB:=xh (HB.out.trans (hb.mono HB.out.size))
        clear hb
        by_cases hok:ObOk 3 x false 0 0 0 0 0 t o r 0
        ·have HP:Hid (oPF xs q=⟨3,x,false,0,0,0,0,0,t,o,r,0,q5,0⟩):=by
          show _=_
          simp[oPF,oPF2,oPF3,oend,G1.out,G2.out,G3.out,G4.out,G5.out,hok]
         rw[decide_eq_true hok]
         obtain⟨⟨i0_,i1_,i2_,i3_,i4_,i5_,i6_,i7_,i8_,i9_,i10_,i11_⟩,if_⟩:=OH.out
         obtain⟨⟨r0_,r1_,r2_,r3_,r4_,r5_,r6_,r7_,r8_,r9_,r10_,r11_⟩,rf_⟩:=OR.out
         go_wp2_with fail
         have hs:=(OR.out.setall 3 x false 0 0 0 0 0 t o r 0).1
         have hbs:Below w.heap.size w (xC W8 w.heap.size (xO 3 x false 0 0 0 0 0 t o r 0)):=(xC12 HB.out xl)
         generalize (xC W8 w.heap.size (xO 3 x false 0 0 0 0 0 t o r 0):World)=W5 at*
         obtain⟨s0_,s1_,s2_,s3_,s4_,s5_,s6_,s7_,s8_,s9_,s10_,s11_⟩:=hs
         exact bodyPost_ret (v:=.tuple #[.agg (xO 3 x false 0 0 0 0 0 t o r 0),xI q5,xI 0]) (by simp[results,Tryz.results74,go_sem,s0_,s1_,s2_,s3_,s4_,s5_,s6_,s7_,s8_,s9_,s10_,s11_]) rfl ⟨by rw[HP.out];rfl,hbs⟩
        ·have HP:Hid (oPF xs q=.no 4):=by
          show _=_
          simp[oPF,oPF2,oPF3,oend,OP.no,G1.out,G2.out,G3.out,G4.out,G5.out,hok]
         rw[decide_eq_false hok]
         obtain⟨⟨r0_,r1_,r2_,r3_,r4_,r5_,r6_,r7_,r8_,r9_,r10_,r11_⟩,rf_⟩:=OR.out
         go_wp2_with fail
         have hs:=(OR.out.setall 0 0 false 0 0 0 0 0 0 0 0 0).1
         have hbs:Below w.heap.size w (xC W8 w.heap.size xZ):=(xC12 HB.out xl)
         generalize (xC W8 w.heap.size xZ:World)=W5 at*
         obtain⟨s0_,s1_,s2_,s3_,s4_,s5_,s6_,s7_,s8_,s9_,s10_,s11_⟩:=hs
         exact bodyPost_ret (v:=.tuple #[.agg xZ,xI 0,xI 4]) (by simp[results,Tryz.results74,go_sem,s0_,s1_,s2_,s3_,s4_,s5_,s6_,s7_,s8_,s9_,s10_,s11_]) rfl ⟨by rw[HP.out];rfl,hbs⟩
       ·skip
        have h5':(e5 !=0)=true:=by simpa using h5
        have HP:Hid (oPF xs q=.no e5):=by
         show _=_
         simp[oPF,oPF2,oPF3,OP.no,G1.out,G2.out,G3.out,G4.out,G5.out,h5]
        obtain⟨⟨r0_,r1_,r2_,r3_,r4_,r5_,r6_,r7_,r8_,r9_,r10_,r11_⟩,rf_⟩:=OR.out
        go_wp2_with fail
        have hs:=(OR.out.setall 0 0 false 0 0 0 0 0 0 0 0 0).1
        have hbs:Below w.heap.size w (xC V2 w.heap.size xZ):=(xC12 HB.out xl)
        generalize (xC V2 w.heap.size xZ:World)=W5 at*
        obtain⟨s0_,s1_,s2_,s3_,s4_,s5_,s6_,s7_,s8_,s9_,s10_,s11_⟩:=hs
        exact bodyPost_ret (v:=.tuple #[.agg xZ,xI 0,xI e5]) (by simp[results,Tryz.results74,go_sem,s0_,s1_,s2_,s3_,s4_,s5_,s6_,s7_,s8_,s9_,s10_,s11_]) rfl ⟨by rw[HP.out];rfl,hbs⟩
      ·skip
       have h4':(e4 !=0)=true:=by simpa using h4
       have HP:Hid (oPF xs q=.no e4):=by
        show _=_
        simp[oPF,oPF2,oPF3,OP.no,G1.out,G2.out,G3.out,G4.out,h4]
       obtain⟨⟨r0_,r1_,r2_,r3_,r4_,r5_,r6_,r7_,r8_,r9_,r10_,r11_⟩,rf_⟩:=OR.out
       go_wp2_with fail
       have hs:=(OR.out.setall 0 0 false 0 0 0 0 0 0 0 0 0).1
       have hbs:Below w.heap.size w (xC V2 w.heap.size xZ):=(xC12 HB.out xl)
       generalize (xC V2 w.heap.size xZ:World)=W5 at*
       obtain⟨s0_,s1_,s2_,s3_,s4_,s5_,s6_,s7_,s8_,s9_,s10_,s11_⟩:=hs
       exact bodyPost_ret (v:=.tuple #[.agg xZ,xI 0,xI e4]) (by simp[results,Tryz.results74,go_sem,s0_,s1_,s2_,s3_,s4_,s5_,s6_,s7_,s8_,s9_,s10_,s11_]) rfl ⟨by rw[HP.out];rfl,hbs⟩
     ·skip
      have h3':(e3 !=0)=true:=by simpa using h3
      have HP:Hid (oPF xs q=.no e3):=by
       show _=_
       simp[oPF,oPF2,oPF3,OP.no,G1.out,G2.out,G3.out,h3]
      obtain⟨⟨r0_,r1_,r2_,r3_,r4_,r5_,r6_,r7_,r8_,r9_,r10_,r11_⟩,rf_⟩:=OR.out
      go_wp2_with fail
      have hs:=(OR.out.setall 0 0 false 0 0 0 0 0 0 0 0 0).1
      have hbs:Below w.heap.size w (xC V2 w.heap.size xZ):=(xC12 HB.out xl)
      generalize (xC V2 w.heap.size xZ:World)=W5 at*
      obtain⟨s0_,s1_,s2_,s3_,s4_,s5_,s6_,s7_,s8_,s9_,s10_,s11_⟩:=hs
      exact bodyPost_ret (v:=.tuple #[.agg xZ,xI 0,xI e3]) (by simp[results,Tryz.results74,go_sem,s0_,s1_,s2_,s3_,s4_,s5_,s6_,s7_,s8_,s9_,s10_,s11_]) rfl ⟨by rw[HP.out];rfl,hbs⟩
    ·skip
     have h2':(e2 !=0)=true:=by simpa using h2
     have HP:Hid (oPF xs q=.no e2):=by
      show _=_
      simp[oPF,oPF2,OP.no,G1.out,G2.out,h2]
     obtain⟨⟨r0_,r1_,r2_,r3_,r4_,r5_,r6_,r7_,r8_,r9_,r10_,r11_⟩,rf_⟩:=OR.out
     go_wp2_with fail
     have hs:=(OR.out.setall 0 0 false 0 0 0 0 0 0 0 0 0).1
     have hbs:Below w.heap.size w (xC V1 w.heap.size xZ):=(xC12 HB.out xl)
     generalize (xC V1 w.heap.size xZ:World)=W5 at*
     obtain⟨s0_,s1_,s2_,s3_,s4_,s5_,s6_,s7_,s8_,s9_,s10_,s11_⟩:=hs
     exact bodyPost_ret (v:=.tuple #[.agg xZ,xI 0,xI e2]) (by simp[results,Tryz.results74,go_sem,s0_,s1_,s2_,s3_,s4_,s5_,s6_,s7_,s8_,s9_,s10_,s11_]) rfl ⟨by rw[HP.out];rfl,hbs⟩
   ·skip
    obtain⟨⟨x,q2,e2⟩,gg⟩:∃r,getS xs q1 1=r:=⟨_,rfl⟩
    have cc:=xh (zaF (.slice a l c) xs q1 1 V1 (zaa HV.out HB.out))
    rw[gg]at cc
    simp only[tri]at cc
    have G2:=xh gg
    clear gg
    go_wp2_with fail
    refine cc.out.mono ?_
    rintro e w' ⟨rfl,hw⟩
    subst hw
    clear cc
    by_cases h2:e2=0
    ·subst h2
     have OH:=xh (zah V1 4 x false 0 0 0 0 0 0 0 0 0 63 V1.heap.size rfl)
     have hal:Below V1.heap.size V1 (V1.alloc (.cells (xO 4 x false 0 0 0 0 0 0 0 0 0) 63)):=(Below.refl _ V1).alloc xl _
     have LT:Hid (w.heap.size<V1.heap.size):=OR.out.lt
     replace OR:=xh (OR.out.below hal)
     replace HB:=xh (HB.out.trans (hal.mono HB.out.size))
     clear hal
     obtain⟨g1,hg⟩:∃g1,V1.heap.size=g1:=⟨_,rfl⟩
     obtain⟨V2,hV2⟩:∃V2,V1.alloc (.cells (xO 4 x false 0 0 0 0 0 0 0 0 0) 63)=V2:=⟨_,rfl⟩
     rw[hV2]at OH OR HB
     rw[hg]at OH LT
     have HV2:=xh hV2
     have HG2:=xh hg
     clear hV2 hg
     obtain⟨⟨pn,pt,po,pr,pd,pi,q3,e3⟩,gp⟩:∃P,zaG xs q2=P:=⟨_,rfl⟩
     have cc:=xh (zen (.slice a l c) xs q2 V2 (zaa HV.out HB.out))
     rw[gp]at cc
     simp only[PR.v]at cc
     have G3:=xh gp
     clear gp
     go_wp2_with fail
     simp only[HV2.out,HG2.out]
     refine cc.out.mono ?_
     rintro e V3 ⟨rfl,hb⟩
     clear cc
     replace OH:=xh (OH.out.below hb)
     replace OR:=xh (OR.out.below hb)
     replace HB:=xh (HB.out.trans (hb.mono HB.out.size))
     clear hb
     have H6:=xh (zar V3 pn pt po pr pd pi 59 V3.heap.size rfl)
     have hal:Below V3.heap.size V3 (V3.alloc (.cells (xB pn pt po pr pd pi) 59)):=(Below.refl _ V3).alloc xl _
     have LT2:Hid (g1<V3.heap.size):=OH.out.lt
     replace OH:=xh (OH.out.below hal)
     replace OR:=xh (OR.out.below hal)
     replace HB:=xh (HB.out.trans (hal.mono HB.out.size))
     clear hal
     by_cases h3:e3=0
     ·subst h3
      obtain⟨⟨t0_,t1_,t2_,t3_,t4_,t5_⟩,tf_⟩:=H6.out
      obtain⟨V4,hV4⟩:∃V4,V3.alloc (.cells (xB pn pt po pr pd pi) 59)=V4:=⟨_,rfl⟩
      rw[hV4]at OH OR HB t0_ t1_ t2_ t3_ t4_ t5_ tf_
      have hne:V3.heap.size≠g1:=Nat.ne_of_gt LT2.out
      have OX:=xh (OH.out.seth pn pt po pr pd pi)
      have hon:Onl g1 V4 ((((((V4.setCell (xQ g1 2) (.bool pn)).setCell (xQ g1 3) (xI pt)).setCell (xQ g1 4) (xI po)).setCell (xQ g1 5) (xI pr)).setCell (xQ g1 6) (xI pd)).setCell (xQ g1 7) (xI pi)):=((((((Onl.refl g1 V4).set 2 _).set 3 _).set 4 _).set 5 _).set 6 _).set 7 _
      have OY:Hid (Own12 ((((((V4.setCell (xQ g1 2) (.bool pn)).setCell (xQ g1 3) (xI pt)).setCell (xQ g1 4) (xI po)).setCell (xQ g1 5) (xI pr)).setCell (xQ g1 6) (xI pd)).setCell (xQ g1 7) (xI pi)) w.heap.size 0 0 false 0 0 0 0 0 0 0 0 0):=OR.out.onl hon (Nat.ne_of_lt LT.out)
      have HY:Hid (Below w.heap.size w ((((((V4.setCell (xQ g1 2) (.bool pn)).setCell (xQ g1 3) (xI pt)).setCell (xQ g1 4) (xI po)).setCell (xQ g1 5) (xI pr)).setCell (xQ g1 6) (xI pd)).setCell (xQ g1 7) (xI pi))):=HB.out.trans (hon.below (Nat.le_of_lt LT.out) HB.out.size)
      obtain⟨⟨u0_,u1_,u2_,u3_,u4_,u5_,u6_,u7_,u8_,u9_,u10_,u11_⟩,uf_⟩:=OH.out
      clear hon
      obtain⟨V5,hN⟩:∃V5,((((((V4.setCell (xQ g1 2) (.bool pn)).setCell (xQ g1 3) (xI pt)).setCell (xQ g1 4) (xI po)).setCell (xQ g1 5) (xI pr)).setCell (xQ g1 6) (xI pd)).setCell (xQ g1 7) (xI pi))=V5:=⟨_,rfl⟩
      rw[hN]at OX OY HY
      replace OR:=OY
      replace HB:=HY
      replace OH:=OX
      clear OY HY OX
      obtain⟨⟨m,q4,e4⟩,gg⟩:∃r,getS xs q3 2=r:=⟨_,rfl⟩
      have cc:=xh (zaF (.slice a l c) xs q3 2 V5 (zaa HV.out HB.out))
      rw[gg]at cc
      simp only[tri]at cc
      have G4:=xh gg
      clear gg
      go_wp2_with fail
      clear hN u0_ u1_ u2_ u3_ u4_ u5_ u6_ u7_ u8_ u9_ u10_ u11_ uf_
      clear hV4 t0_ t1_ t2_ t3_ t4_ t5_ tf_
      refine cc.out.mono ?_
      rintro e w' ⟨rfl,hw⟩
      subst hw
      clear cc
      by_cases h4:e4=0
      ·subst h4
       have OX:=xh (OH.out.setm m)
       have hon:Onl g1 V5 (V5.setCell (xQ g1 11) (xI m)):=(Onl.refl g1 V5).set 11 _
       have OY:Hid (Own12 (V5.setCell (xQ g1 11) (xI m)) w.heap.size 0 0 false 0 0 0 0 0 0 0 0 0):=OR.out.onl hon (Nat.ne_of_lt LT.out)
       have HY:Hid (Below w.heap.size w (V5.setCell (xQ g1 11) (xI m))):=HB.out.trans (hon.below (Nat.le_of_lt LT.out) HB.out.size)
       obtain⟨⟨u0_,u1_,u2_,u3_,u4_,u5_,u6_,u7_,u8_,u9_,u10_,u11_⟩,uf_⟩:=OH.out
       clear hon
       obtain⟨V6,hN⟩:∃V6,(V5.setCell (xQ g1 11) (xI m))=V6:=⟨_,rfl⟩
       rw[hN]at OX OY HY
       replace OR:=OY
       replace HB:=HY
       replace OH:=OX
       clear OY HY OX
       obtain⟨⟨i0_,i1_,i2_,i3_,i4_,i5_,i6_,i7_,i8_,i9_,i10_,i11_⟩,if_⟩:=OH.out
       go_wp2_with fail
       clear hN u0_ u1_ u2_ u3_ u4_ u5_ u6_ u7_ u8_ u9_ u10_ u11_ uf_
       clear i0_ i1_ i2_ i3_ i4_ i5_ i6_ i7_ i8_ i9_ i10_ i11_ if_
       refine(zbo 4 x pn pt po pr pd pi 0 0 0 m _).mono ?_
       rintro e W8 ⟨rfl,hb⟩
       replace OH:=xh (OH.out.below hb)
       replace OR:=xh (OR.out.below hb)
       replace HB:=xh (HB.out.trans (hb.mono HB.out.size))
       clear hb
       by_cases hok:ObOk 4 x pn pt po pr pd pi 0 0 0 m
       ·have HP:Hid (oPF xs q=⟨4,x,pn,pt,po,pr,pd,pi,0,0,0,m,q4,0⟩):=by
         show _=_
         simp[oPF,oPF2,oPF4,oend,G1.out,G2.out,G3.out,G4.out,hok]
        rw[decide_eq_true hok]
        obtain⟨⟨i0_,i1_,i2_,i3_,i4_,i5_,i6_,i7_,i8_,i9_,i10_,i11_⟩,if_⟩:=OH.out
        obtain⟨⟨r0_,r1_,r2_,r3_,r4_,r5_,r6_,r7_,r8_,r9_,r10_,r11_⟩,rf_⟩:=OR.out
        go_wp2_with fail
        have hs:=(OR.out.setall 4 x pn pt po pr pd pi 0 0 0 m).1
        have hbs:Below w.heap.size w (xC W8 w.heap.size (xO 4 x pn pt po pr pd pi 0 0 0 m)):=(xC12 HB.out xl)
        generalize (xC W8 w.heap.size (xO 4 x pn pt po pr pd pi 0 0 0 m):World)=W5 at*
        obtain⟨s0_,s1_,s2_,s3_,s4_,s5_,s6_,s7_,s8_,s9_,s10_,s11_⟩:=hs
        exact bodyPost_ret (v:=.tuple #[.agg (xO 4 x pn pt po pr pd pi 0 0 0 m),xI q4,xI 0]) (by simp[results,Tryz.results74,go_sem,s0_,s1_,s2_,s3_,s4_,s5_,s6_,s7_,s8_,s9_,s10_,s11_]) rfl ⟨by rw[HP.out];rfl,hbs⟩
       ·have HP:Hid (oPF xs q=.no 4):=by
         show _=_
         simp[oPF,oPF2,oPF4,oend,OP.no,G1.out,G2.out,G3.out,G4.out,hok]
        rw[decide_eq_false hok]
        obtain⟨⟨r0_,r1_,r2_,r3_,r4_,r5_,r6_,r7_,r8_,r9_,r10_,r11_⟩,rf_⟩:=OR.out
        go_wp2_with fail
        have hs:=(OR.out.setall 0 0 false 0 0 0 0 0 0 0 0 0).1
        have hbs:Below w.heap.size w (xC W8 w.heap.size xZ):=(xC12 HB.out xl)
        generalize (xC W8 w.heap.size xZ:World)=W5 at*
        obtain⟨s0_,s1_,s2_,s3_,s4_,s5_,s6_,s7_,s8_,s9_,s10_,s11_⟩:=hs
        exact bodyPost_ret (v:=.tuple #[.agg xZ,xI 0,xI 4]) (by simp[results,Tryz.results74,go_sem,s0_,s1_,s2_,s3_,s4_,s5_,s6_,s7_,s8_,s9_,s10_,s11_]) rfl ⟨by rw[HP.out];rfl,hbs⟩
      ·skip
       have h4':(e4 !=0)=true:=by simpa using h4
       have HP:Hid (oPF xs q=.no e4):=by
        show _=_
        simp[oPF,oPF2,oPF4,OP.no,G1.out,G2.out,G3.out,G4.out,h4]
       obtain⟨⟨r0_,r1_,r2_,r3_,r4_,r5_,r6_,r7_,r8_,r9_,r10_,r11_⟩,rf_⟩:=OR.out
       go_wp2_with fail
       have hs:=(OR.out.setall 0 0 false 0 0 0 0 0 0 0 0 0).1
       have hbs:Below w.heap.size w (xC V5 w.heap.size xZ):=(xC12 HB.out xl)
       generalize (xC V5 w.heap.size xZ:World)=W5 at*
       obtain⟨s0_,s1_,s2_,s3_,s4_,s5_,s6_,s7_,s8_,s9_,s10_,s11_⟩:=hs
       exact bodyPost_ret (v:=.tuple #[.agg xZ,xI 0,xI e4]) (by simp[results,Tryz.results74,go_sem,s0_,s1_,s2_,s3_,s4_,s5_,s6_,s7_,s8_,s9_,s10_,s11_]) rfl ⟨by rw[HP.out];rfl,hbs⟩
     ·skip
      have h3':(e3 !=0)=true:=by simpa using h3
      have HP:Hid (oPF xs q=.no e3):=by
       show _=_
       simp[oPF,oPF2,oPF4,OP.no,G1.out,G2.out,G3.out,h3]
      obtain⟨⟨r0_,r1_,r2_,r3_,r4_,r5_,r6_,r7_,r8_,r9_,r10_,r11_⟩,rf_⟩:=OR.out
      go_wp2_with fail
      have hs:=(OR.out.setall 0 0 false 0 0 0 0 0 0 0 0 0).1
      have hbs:Below w.heap.size w (xC (V3.alloc (.cells (xB pn pt po pr pd pi) 59)) w.heap.size xZ):=(xC12 HB.out xl)
      generalize (xC (V3.alloc (.cells (xB pn pt po pr pd pi) 59)) w.heap.size xZ:World)=W5 at*
      obtain⟨s0_,s1_,s2_,s3_,s4_,s5_,s6_,s7_,s8_,s9_,s10_,s11_⟩:=hs
      exact bodyPost_ret (v:=.tuple #[.agg xZ,xI 0,xI e3]) (by simp[results,Tryz.results74,go_sem,s0_,s1_,s2_,s3_,s4_,s5_,s6_,s7_,s8_,s9_,s10_,s11_]) rfl ⟨by rw[HP.out];rfl,hbs⟩
    ·skip
     have h2':(e2 !=0)=true:=by simpa using h2
     have HP:Hid (oPF xs q=.no e2):=by
      show _=_
      simp[oPF,oPF2,OP.no,G1.out,G2.out,h2]
     obtain⟨⟨r0_,r1_,r2_,r3_,r4_,r5_,r6_,r7_,r8_,r9_,r10_,r11_⟩,rf_⟩:=OR.out
     go_wp2_with fail
     have hs:=(OR.out.setall 0 0 false 0 0 0 0 0 0 0 0 0).1
     have hbs:Below w.heap.size w (xC V1 w.heap.size xZ):=(xC12 HB.out xl)
     generalize (xC V1 w.heap.size xZ:World)=W5 at*
     obtain⟨s0_,s1_,s2_,s3_,s4_,s5_,s6_,s7_,s8_,s9_,s10_,s11_⟩:=hs
     exact bodyPost_ret (v:=.tuple #[.agg xZ,xI 0,xI e2]) (by simp[results,Tryz.results74,go_sem,s0_,s1_,s2_,s3_,s4_,s5_,s6_,s7_,s8_,s9_,s10_,s11_]) rfl ⟨by rw[HP.out];rfl,hbs⟩
 ·skip
  have h1':(e1 !=0)=true:=by simpa using h1
  have HP:Hid (oPF xs q=.no e1):=by
   show _=_
   simp[oPF,OP.no,G1.out,h1]
  obtain⟨⟨r0_,r1_,r2_,r3_,r4_,r5_,r6_,r7_,r8_,r9_,r10_,r11_⟩,rf_⟩:=OR.out
  go_wp2_with fail
  have hs:=(OR.out.setall 0 0 false 0 0 0 0 0 0 0 0 0).1
  have hbs:Below w.heap.size w (xC V1 w.heap.size xZ):=(xC12 HB.out xl)
  generalize (xC V1 w.heap.size xZ:World)=W5 at*
  obtain⟨s0_,s1_,s2_,s3_,s4_,s5_,s6_,s7_,s8_,s9_,s10_,s11_⟩:=hs
  exact bodyPost_ret (v:=.tuple #[.agg xZ,xI 0,xI e1]) (by simp[results,Tryz.results74,go_sem,s0_,s1_,s2_,s3_,s4_,s5_,s6_,s7_,s8_,s9_,s10_,s11_]) rfl ⟨by rw[HP.out];rfl,hbs⟩
end
end Go.Proofs.YtjghebcnmoojmaaGreat
