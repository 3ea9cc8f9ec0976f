/- A height read out of bytes: -/
import Derived.Test.YtjghebcnmoojmaaGreatV15
import Derived.Deep.RegionWith
set_option maxRecDepth 100000
set_option maxHeartbeats 32000000
namespace Go.Proofs.YtjghebcnmoojmaaGreat
open Go.RowKit MX
section
open Go.Sort
theorem pr_0 (a:Option Addr)(l c:Nat)(at':Int)(xs:List Int)(w:World)(hv0:Bs w (.slice a l c) xs)(s1 e1 t s2 e2 o s3 e3 r s4 e4 d s5 e5 i s6 e6:Int)(hc1:zab xs (at',0)=(1,s1,e1))(hc2:zaB xs (s1,e1)=(t,s2,e2))(hc3:zab xs (s2,e2)=(o,s3,e3))(hc4:zab xs (s3,e3)=(r,s4,e4))(hc5:zaB xs (s4,e4)=(d,s5,e5))(hc6:zab xs (s5,e5)=(i,s6,e6))(n9:Bool)(t9 o9 r9 d9 i9 to9 e9:Int)
  (cC:∀W,Calls Tryz.prog 151 #[.agg (xB false t o r d i)] W fun e w'=>e=.returned (xI 0)∧Below W.heap.size W w')
  (D:∀W,Rd W (w.heap.size+1) s6 e6→Calls Tryz.prog 154 #[xP (w.heap.size+1),.agg (xB false t o r d i),.bool true] W fun e w'=>e=.returned (.tuple #[.agg (xB n9 t9 o9 r9 d9 i9),xI to9,xI e9])∧Onl (w.heap.size+1) W w'):
  Calls Tryz.prog 140 #[.slice a l c,xI at'] w fun e w'=>e=.returned (.tuple #[.agg (xB n9 t9 o9 r9 d9 i9),xI to9,xI e9])∧Below w.heap.size w w':=by
 have hv:=xh hv0
 clear hv0
 have c1:∀V,Rd V (w.heap.size+1) at' 0→Bs V (.slice a l c) xs→Calls Tryz.prog 31 #[xP (w.heap.size+1),.slice a l c,xI 1] V fun e w'=>e=.returned (xI 1)∧Rd w' (w.heap.size+1) s1 e1∧Onl (w.heap.size+1) V w':=fun V h hv=>by
  have h:Calls Tryz.prog 31 #[xP (w.heap.size+1),.slice a l c,xI 1] V fun e w'=>e=.returned (xI (zab xs (at',0)).1)∧Rd w' (w.heap.size+1) (zab xs (at',0)).2.1 (zab xs (at',0)).2.2∧Onl (w.heap.size+1) V w':=zad (w.heap.size+1) (.slice a l c) xs 1 at' 0 V h hv
  rw[hc1]at h
  exact h
 have c2:∀V,Rd V (w.heap.size+1) s1 e1→Bs V (.slice a l c) xs→Calls Tryz.prog 138 #[xP (w.heap.size+1),.slice a l c] V fun e w'=>e=.returned (xI t)∧Rd w' (w.heap.size+1) s2 e2∧Onl (w.heap.size+1) V w':=fun V h hv=>by
  have h:Calls Tryz.prog 138 #[xP (w.heap.size+1),.slice a l c] V fun e w'=>e=.returned (xI (zaB xs (s1,e1)).1)∧Rd w' (w.heap.size+1) (zaB xs (s1,e1)).2.1 (zaB xs (s1,e1)).2.2∧Onl (w.heap.size+1) V w':=zce (w.heap.size+1) (.slice a l c) xs s1 e1 V h hv
  rw[hc2]at h
  exact h
 have c3:∀V,Rd V (w.heap.size+1) s2 e2→Bs V (.slice a l c) xs→Calls Tryz.prog 31 #[xP (w.heap.size+1),.slice a l c,xI 1] V fun e w'=>e=.returned (xI o)∧Rd w' (w.heap.size+1) s3 e3∧Onl (w.heap.size+1) V w':=fun V h hv=>by
  have h:Calls Tryz.prog 31 #[xP (w.heap.size+1),.slice a l c,xI 1] V fun e w'=>e=.returned (xI (zab xs (s2,e2)).1)∧Rd w' (w.heap.size+1) (zab xs (s2,e2)).2.1 (zab xs (s2,e2)).2.2∧Onl (w.heap.size+1) V w':=zad (w.heap.size+1) (.slice a l c) xs 1 s2 e2 V h hv
  rw[hc3]at h
  exact h
 have c4:∀V,Rd V (w.heap.size+1) s3 e3→Bs V (.slice a l c) xs→Calls Tryz.prog 31 #[xP (w.heap.size+1),.slice a l c,xI 1] V fun e w'=>e=.returned (xI r)∧Rd w' (w.heap.size+1) s4 e4∧Onl (w.heap.size+1) V w':=fun V h hv=>by
  have h:Calls Tryz.prog 31 #[xP (w.heap.size+1),.slice a l c,xI 1] V fun e w'=>e=.returned (xI (zab xs (s3,e3)).1)∧Rd w' (w.heap.size+1) (zab xs (s3,e3)).2.1 (zab xs (s3,e3)).2.2∧Onl (w.heap.size+1) V w':=zad (w.heap.size+1) (.slice a l c) xs 1 s3 e3 V h hv
  rw[hc4]at h
  exact h
 have c5:∀V,Rd V (w.heap.size+1) s4 e4→Bs V (.slice a l c) xs→Calls Tryz.prog 138 #[xP (w.heap.size+1),.slice a l c] V fun e w'=>e=.returned (xI d)∧Rd w' (w.heap.size+1) s5 e5∧Onl (w.heap.size+1) V w':=fun V h hv=>by
  have h:Calls Tryz.prog 138 #[xP (w.heap.size+1),.slice a l c] V fun e w'=>e=.returned (xI (zaB xs (s4,e4)).1)∧Rd w' (w.heap.size+1) (zaB xs (s4,e4)).2.1 (zaB xs (s4,e4)).2.2∧Onl (w.heap.size+1) V w':=zce (w.heap.size+1) (.slice a l c) xs s4 e4 V h hv
  rw[hc5]at h
  exact h
 have c6:∀V,Rd V (w.heap.size+1) s5 e5→Bs V (.slice a l c) xs→Calls Tryz.prog 31 #[xP (w.heap.size+1),.slice a l c,xI 1] V fun e w'=>e=.returned (xI i)∧Rd w' (w.heap.size+1) s6 e6∧Onl (w.heap.size+1) V w':=fun V h hv=>by
  have h:Calls Tryz.prog 31 #[xP (w.heap.size+1),.slice a l c,xI 1] V fun e w'=>e=.returned (xI (zab xs (s5,e5)).1)∧Rd w' (w.heap.size+1) (zab xs (s5,e5)).2.1 (zab xs (s5,e5)).2.2∧Onl (w.heap.size+1) V w':=zad (w.heap.size+1) (.slice a l c) xs 1 s5 e5 V h hv
  rw[hc6]at h
  exact h
 clear hc1 hc2 hc3 hc4 hc5 hc6
 go_enter Tryz.func140,Tryz.ntmps140
 go_wp2_with fail
 refine(za6 _ _).mono ?_
 rintro e _ ⟨rfl,rfl⟩
 go_wp2_with fail
 have OR:=xh (((zar w false 0 0 0 0 0 59 w.heap.size rfl).below (xr.alloc xl _)).below (xr.alloc xl _):Own6 (((w.alloc (.cells xE 59)).alloc (.cells #[xI at',xI 0] 89)).alloc (.cells xE 59)) w.heap.size false 0 0 0 0 0)
 have OH:=xh (zar ((w.alloc (.cells xE 59)).alloc (.cells #[xI at',xI 0] 89)) false 0 0 0 0 0 59 (w.heap.size+1+1) (by simp))
 have R:=xh ((zaO (w.alloc (.cells xE 59)) at' (w.heap.size+1) (by simp)).alloc (.cells xE 59))
 have HB:Hid (Below w.heap.size w (((w.alloc (.cells xE 59)).alloc (.cells #[xI at',xI 0] 89)).alloc (.cells xE 59))):=((xr.alloc xl _).alloc (by simp) _).alloc (by simp;omega) _
 generalize (((w.alloc (.cells xE 59)).alloc (.cells #[xI at',xI 0] 89)).alloc (.cells xE 59))=V0 at*
 obtain⟨⟨q0,q1,q2,q3,q4,q5⟩,qf⟩:=OH.out;obtain⟨⟨u0,u1,u2,u3,u4,u5⟩,uf⟩:=OR.out;obtain⟨z0,z1,zf⟩:=R.out
 refine(c1 _ R.out (zaa hv.out HB.out)).mono ?_
 rintro e V1 ⟨rfl,hR,ho⟩
 replace OH:=xh (OH.out.onl ho (by omega));replace OR:=xh (OR.out.onl ho (by omega));replace HB:=xh (HB.out.trans (ho.below (by omega) HB.out.size));replace R:=xh hR;clear ho hR;clear q0 q1 q2 q3 q4 q5 qf u0 u1 u2 u3 u4 u5 uf z0 z1 zf;obtain⟨⟨q0,q1,q2,q3,q4,q5⟩,qf⟩:=OH.out;obtain⟨⟨u0,u1,u2,u3,u4,u5⟩,uf⟩:=OR.out;obtain⟨z0,z1,zf⟩:=R.out
 go_wp2_with fail
 refine(c2 _ R.out (zaa hv.out HB.out)).mono ?_
 rintro e V2 ⟨rfl,hR,ho⟩
 replace OH:=xh (OH.out.onl ho (by omega));replace OR:=xh (OR.out.onl ho (by omega));replace HB:=xh (HB.out.trans (ho.below (by omega) HB.out.size));replace R:=xh hR;clear ho hR;clear q0 q1 q2 q3 q4 q5 qf u0 u1 u2 u3 u4 u5 uf z0 z1 zf;obtain⟨⟨q0,q1,q2,q3,q4,q5⟩,qf⟩:=OH.out;obtain⟨⟨u0,u1,u2,u3,u4,u5⟩,uf⟩:=OR.out;obtain⟨z0,z1,zf⟩:=R.out
 go_wp2_with fail
 refine(c3 _ R.out (zaa hv.out HB.out)).mono ?_
 rintro e V3 ⟨rfl,hR,ho⟩
 replace OH:=xh (OH.out.onl ho (by omega));replace OR:=xh (OR.out.onl ho (by omega));replace HB:=xh (HB.out.trans (ho.below (by omega) HB.out.size));replace R:=xh hR;clear ho hR;clear q0 q1 q2 q3 q4 q5 qf u0 u1 u2 u3 u4 u5 uf z0 z1 zf;obtain⟨⟨q0,q1,q2,q3,q4,q5⟩,qf⟩:=OH.out;obtain⟨⟨u0,u1,u2,u3,u4,u5⟩,uf⟩:=OR.out;obtain⟨z0,z1,zf⟩:=R.out
 go_wp2_with fail
 refine(c4 _ R.out (zaa hv.out HB.out)).mono ?_
 rintro e V14 ⟨rfl,hR,ho⟩
 replace OH:=xh (OH.out.onl ho (by omega));replace OR:=xh (OR.out.onl ho (by omega));replace HB:=xh (HB.out.trans (ho.below (by omega) HB.out.size));replace R:=xh hR;clear ho hR;clear q0 q1 q2 q3 q4 q5 qf u0 u1 u2 u3 u4 u5 uf z0 z1 zf;obtain⟨⟨q0,q1,q2,q3,q4,q5⟩,qf⟩:=OH.out;obtain⟨⟨u0,u1,u2,u3,u4,u5⟩,uf⟩:=OR.out;obtain⟨z0,z1,zf⟩:=R.out
 go_wp2_with fail
 refine(c5 _ R.out (zaa hv.out HB.out)).mono ?_
 rintro e V5 ⟨rfl,hR,ho⟩
 replace OH:=xh (OH.out.onl ho (by omega));replace OR:=xh (OR.out.onl ho (by omega));replace HB:=xh (HB.out.trans (ho.below (by omega) HB.out.size));replace R:=xh hR;clear ho hR;clear q0 q1 q2 q3 q4 q5 qf u0 u1 u2 u3 u4 u5 uf z0 z1 zf;obtain⟨⟨q0,q1,q2,q3,q4,q5⟩,qf⟩:=OH.out;obtain⟨⟨u0,u1,u2,u3,u4,u5⟩,uf⟩:=OR.out;obtain⟨z0,z1,zf⟩:=R.out
 go_wp2_with fail
 have o1:Onl (w.heap.size+1+1) V5 (xC V5 (w.heap.size+1+1) (xB false t o r d 0)):=((((((Onl.refl _ _).set 0 _).set 1 _).set 2 _).set 3 _).set 4 _).set 5 _
 replace OH:=xh (OH.out.set false t o r d 0)
 replace OR:=xh (OR.out.onl o1 (by omega))
 replace HB:=xh (HB.out.trans (o1.below (by omega) HB.out.size))
 replace R:=xh (R.out.onl o1 (by omega))
 clear o1
 clear q0 q1 q2 q3 q4 q5 qf u0 u1 u2 u3 u4 u5 uf z0 z1 zf
 generalize (xC V5 (w.heap.size+1+1) (xB false t o r d 0):World)=V6 at*
 refine(c6 _ R.out (zaa hv.out HB.out)).mono ?_
 rintro e V7 ⟨rfl,hR,ho⟩
 replace OH:=xh (OH.out.onl ho (by omega));replace OR:=xh (OR.out.onl ho (by omega));replace HB:=xh (HB.out.trans (ho.below (by omega) HB.out.size));replace R:=xh hR;clear ho hR;obtain⟨⟨q0,q1,q2,q3,q4,q5⟩,qf⟩:=OH.out;obtain⟨⟨u0,u1,u2,u3,u4,u5⟩,uf⟩:=OR.out;obtain⟨z0,z1,zf⟩:=R.out
 go_wp2_with fail
 have o1:Onl (w.heap.size+1+1) V7 (V7.setCell ((w.heap.size+1+1),5) (xI i)):=(Onl.refl _ _).set 5 _
 replace OH:=xh (OH.out.seti i)
 replace OR:=xh (OR.out.onl o1 (by omega))
 replace HB:=xh (HB.out.trans (o1.below (by omega) HB.out.size))
 replace R:=xh (R.out.onl o1 (by omega))
 clear o1
 clear q0 q1 q2 q3 q4 q5 qf u0 u1 u2 u3 u4 u5 uf z0 z1 zf
 generalize V7.setCell ((w.heap.size+1+1),5) (xI i)=V4 at*
 obtain⟨⟨q0,q1,q2,q3,q4,q5⟩,qf⟩:=OH.out;obtain⟨⟨u0,u1,u2,u3,u4,u5⟩,uf⟩:=OR.out;obtain⟨z0,z1,zf⟩:=R.out
 replace OH:Hid (Own6 V4.drew (w.heap.size+1+1) false t o r d i):=OH.out
 replace OR:Hid (Own6 V4.drew w.heap.size false 0 0 0 0 0):=OR.out
 replace R:Hid (Rd V4.drew (w.heap.size+1) s6 e6):=R.out
 replace HB:Hid (Below w.heap.size w V4.drew):=HB.out.drew
 go_region_with (first
  | (go_at_call 151;refine(cC _).mono ?_;rintro e V8 ⟨rfl,hb⟩;replace OH:=xh (OH.out.below hb);replace OR:=xh (OR.out.below hb);replace HB:=xh (HB.out.trans (hb.mono HB.out.size));replace R:=xh (R.out.below hb);clear hb;clear q0 q1 q2 q3 q4 q5 qf u0 u1 u2 u3 u4 u5 uf z0 z1 zf;obtain⟨⟨q0,q1,q2,q3,q4,q5⟩,qf⟩:=OH.out;obtain⟨⟨u0,u1,u2,u3,u4,u5⟩,uf⟩:=OR.out;obtain⟨z0,z1,zf⟩:=R.out)
  | (go_at_call 154;refine(D _ R.out).mono ?_;rintro e V9 ⟨rfl,ho⟩;replace OR:=xh (OR.out.onl ho (by omega));replace HB:=xh (HB.out.trans (ho.below (by omega) HB.out.size));clear ho;clear q0 q1 q2 q3 q4 q5 qf u0 u1 u2 u3 u4 u5 uf z0 z1 zf;obtain⟨⟨u0,u1,u2,u3,u4,u5⟩,uf⟩:=OR.out))
 all_goals
  go_wp2_with fail
  have hs:=set6 OR.out.1 n9 t9 o9 r9 d9 i9
  have hbs:=zbr (b:=w.heap.size) HB.out xl n9 t9 o9 r9 d9 i9
  generalize (xC V9 w.heap.size (xB n9 t9 o9 r9 d9 i9):World)=W5 at*
  obtain⟨s0_,s1_,s2_,s3_,s4_,s5_⟩:=hs
  exact bodyPost_ret (v:=.tuple #[.agg (xB n9 t9 o9 r9 d9 i9),xI to9,xI e9]) (by simp[results,Tryz.results140,go_sem,s0_,s1_,s2_,s3_,s4_,s5_]) rfl ⟨rfl,hbs⟩
theorem pr_1 (a:Option Addr)(l c:Nat)(at':Int)(xs:List Int)(w:World)(hv0:Bs w (.slice a l c) xs)(s1 e1 t s2 e2 o s3 e3 r s4 e4 d s5 e5 i s6 e6:Int)(hc1:zab xs (at',0)=(1,s1,e1))(hc2:zaB xs (s1,e1)=(t,s2,e2))(hc3:zab xs (s2,e2)=(o,s3,e3))(hc4:zab xs (s3,e3)=(r,s4,e4))(hc5:zaB xs (s4,e4)=(d,s5,e5))(hc6:zab xs (s5,e5)=(i,s6,e6))(n9:Bool)(t9 o9 r9 d9 i9 to9 e9:Int)
  (cC:∀W,Calls Tryz.prog 151 #[.agg (xB false t o r d i)] W fun e w'=>e=.returned (xI 1)∧Below W.heap.size W w')
  (D:∀W,Rd W (w.heap.size+1) s6 e6→Calls Tryz.prog 154 #[xP (w.heap.size+1),.agg (xB false t o r d i),.bool false] W fun e w'=>e=.returned (.tuple #[.agg (xB n9 t9 o9 r9 d9 i9),xI to9,xI e9])∧Onl (w.heap.size+1) W w'):
  Calls Tryz.prog 140 #[.slice a l c,xI at'] w fun e w'=>e=.returned (.tuple #[.agg (xB n9 t9 o9 r9 d9 i9),xI to9,xI e9])∧Below w.heap.size w w':=by
 have hv:=xh hv0
 clear hv0
 have c1:∀V,Rd V (w.heap.size+1) at' 0→Bs V (.slice a l c) xs→Calls Tryz.prog 31 #[xP (w.heap.size+1),.slice a l c,xI 1] V fun e w'=>e=.returned (xI 1)∧Rd w' (w.heap.size+1) s1 e1∧Onl (w.heap.size+1) V w':=fun V h hv=>by
  have h:Calls Tryz.prog 31 #[xP (w.heap.size+1),.slice a l c,xI 1] V fun e w'=>e=.returned (xI (zab xs (at',0)).1)∧Rd w' (w.heap.size+1) (zab xs (at',0)).2.1 (zab xs (at',0)).2.2∧Onl (w.heap.size+1) V w':=zad (w.heap.size+1) (.slice a l c) xs 1 at' 0 V h hv
  rw[hc1]at h
  exact h
 have c2:∀V,Rd V (w.heap.size+1) s1 e1→Bs V (.slice a l c) xs→Calls Tryz.prog 138 #[xP (w.heap.size+1),.slice a l c] V fun e w'=>e=.returned (xI t)∧Rd w' (w.heap.size+1) s2 e2∧Onl (w.heap.size+1) V w':=fun V h hv=>by
  have h:Calls Tryz.prog 138 #[xP (w.heap.size+1),.slice a l c] V fun e w'=>e=.returned (xI (zaB xs (s1,e1)).1)∧Rd w' (w.heap.size+1) (zaB xs (s1,e1)).2.1 (zaB xs (s1,e1)).2.2∧Onl (w.heap.size+1) V w':=zce (w.heap.size+1) (.slice a l c) xs s1 e1 V h hv
  rw[hc2]at h
  exact h
 have c3:∀V,Rd V (w.heap.size+1) s2 e2→Bs V (.slice a l c) xs→Calls Tryz.prog 31 #[xP (w.heap.size+1),.slice a l c,xI 1] V fun e w'=>e=.returned (xI o)∧Rd w' (w.heap.size+1) s3 e3∧Onl (w.heap.size+1) V w':=fun V h hv=>by
  have h:Calls Tryz.prog 31 #[xP (w.heap.size+1),.slice a l c,xI 1] V fun e w'=>e=.returned (xI (zab xs (s2,e2)).1)∧Rd w' (w.heap.size+1) (zab xs (s2,e2)).2.1 (zab xs (s2,e2)).2.2∧Onl (w.heap.size+1) V w':=zad (w.heap.size+1) (.slice a l c) xs 1 s2 e2 V h hv
  rw[hc3]at h
  exact h
 have c4:∀V,Rd V (w.heap.size+1) s3 e3→Bs V (.slice a l c) xs→Calls Tryz.prog 31 #[xP (w.heap.size+1),.slice a l c,xI 1] V fun e w'=>e=.returned (xI r)∧Rd w' (w.heap.size+1) s4 e4∧Onl (w.heap.size+1) V w':=fun V h hv=>by
  have h:Calls Tryz.prog 31 #[xP (w.heap.size+1),.slice a l c,xI 1] V fun e w'=>e=.returned (xI (zab xs (s3,e3)).1)∧Rd w' (w.heap.size+1) (zab xs (s3,e3)).2.1 (zab xs (s3,e3)).2.2∧Onl (w.heap.size+1) V w':=zad (w.heap.size+1) (.slice a l c) xs 1 s3 e3 V h hv
  rw[hc4]at h
  exact h
 have c5:∀V,Rd V (w.heap.size+1) s4 e4→Bs V (.slice a l c) xs→Calls Tryz.prog 138 #[xP (w.heap.size+1),.slice a l c] V fun e w'=>e=.returned (xI d)∧Rd w' (w.heap.size+1) s5 e5∧Onl (w.heap.size+1) V w':=fun V h hv=>by
  have h:Calls Tryz.prog 138 #[xP (w.heap.size+1),.slice a l c] V fun e w'=>e=.returned (xI (zaB xs (s4,e4)).1)∧Rd w' (w.heap.size+1) (zaB xs (s4,e4)).2.1 (zaB xs (s4,e4)).2.2∧Onl (w.heap.size+1) V w':=zce (w.heap.size+1) (.slice a l c) xs s4 e4 V h hv
  rw[hc5]at h
  exact h
 have c6:∀V,Rd V (w.heap.size+1) s5 e5→Bs V (.slice a l c) xs→Calls Tryz.prog 31 #[xP (w.heap.size+1),.slice a l c,xI 1] V fun e w'=>e=.returned (xI i)∧Rd w' (w.heap.size+1) s6 e6∧Onl (w.heap.size+1) V w':=fun V h hv=>by
  have h:Calls Tryz.prog 31 #[xP (w.heap.size+1),.slice a l c,xI 1] V fun e w'=>e=.returned (xI (zab xs (s5,e5)).1)∧Rd w' (w.heap.size+1) (zab xs (s5,e5)).2.1 (zab xs (s5,e5)).2.2∧Onl (w.heap.size+1) V w':=zad (w.heap.size+1) (.slice a l c) xs 1 s5 e5 V h hv
  rw[hc6]at h
  exact h
 clear hc1 hc2 hc3 hc4 hc5 hc6
 go_enter Tryz.func140,Tryz.ntmps140
 go_wp2_with fail
 refine(za6 _ _).mono ?_
 rintro e _ ⟨rfl,rfl⟩
 go_wp2_with fail
 have OR:=xh (((zar w false 0 0 0 0 0 59 w.heap.size rfl).below (xr.alloc xl _)).below (xr.alloc xl _):Own6 (((w.alloc (.cells xE 59)).alloc (.cells #[xI at',xI 0] 89)).alloc (.cells xE 59)) w.heap.size false 0 0 0 0 0)
 have OH:=xh (zar ((w.alloc (.cells xE 59)).alloc (.cells #[xI at',xI 0] 89)) false 0 0 0 0 0 59 (w.heap.size+1+1) (by simp))
 have R:=xh ((zaO (w.alloc (.cells xE 59)) at' (w.heap.size+1) (by simp)).alloc (.cells xE 59))
 have HB:Hid (Below w.heap.size w (((w.alloc (.cells xE 59)).alloc (.cells #[xI at',xI 0] 89)).alloc (.cells xE 59))):=((xr.alloc xl _).alloc (by simp) _).alloc (by simp;omega) _
 generalize (((w.alloc (.cells xE 59)).alloc (.cells #[xI at',xI 0] 89)).alloc (.cells xE 59))=V0 at*
 obtain⟨⟨q0,q1,q2,q3,q4,q5⟩,qf⟩:=OH.out;obtain⟨⟨u0,u1,u2,u3,u4,u5⟩,uf⟩:=OR.out;obtain⟨z0,z1,zf⟩:=R.out
 refine(c1 _ R.out (zaa hv.out HB.out)).mono ?_
 rintro e V1 ⟨rfl,hR,ho⟩
 replace OH:=xh (OH.out.onl ho (by omega));replace OR:=xh (OR.out.onl ho (by omega));replace HB:=xh (HB.out.trans (ho.below (by omega) HB.out.size));replace R:=xh hR;clear ho hR;clear q0 q1 q2 q3 q4 q5 qf u0 u1 u2 u3 u4 u5 uf z0 z1 zf;obtain⟨⟨q0,q1,q2,q3,q4,q5⟩,qf⟩:=OH.out;obtain⟨⟨u0,u1,u2,u3,u4,u5⟩,uf⟩:=OR.out;obtain⟨z0,z1,zf⟩:=R.out
 go_wp2_with fail
 refine(c2 _ R.out (zaa hv.out HB.out)).mono ?_
 rintro e V2 ⟨rfl,hR,ho⟩
 replace OH:=xh (OH.out.onl ho (by omega));replace OR:=xh (OR.out.onl ho (by omega));replace HB:=xh (HB.out.trans (ho.below (by omega) HB.out.size));replace R:=xh hR;clear ho hR;clear q0 q1 q2 q3 q4 q5 qf u0 u1 u2 u3 u4 u5 uf z0 z1 zf;obtain⟨⟨q0,q1,q2,q3,q4,q5⟩,qf⟩:=OH.out;obtain⟨⟨u0,u1,u2,u3,u4,u5⟩,uf⟩:=OR.out;obtain⟨z0,z1,zf⟩:=R.out
 go_wp2_with fail
 refine(c3 _ R.out (zaa hv.out HB.out)).mono ?_
 rintro e V3 ⟨rfl,hR,ho⟩
 replace OH:=xh (OH.out.onl ho (by omega));replace OR:=xh (OR.out.onl ho (by omega));replace HB:=xh (HB.out.trans (ho.below (by omega) HB.out.size));replace R:=xh hR;clear ho hR;clear q0 q1 q2 q3 q4 q5 qf u0 u1 u2 u3 u4 u5 uf z0 z1 zf;obtain⟨⟨q0,q1,q2,q3,q4,q5⟩,qf⟩:=OH.out;obtain⟨⟨u0,u1,u2,u3,u4,u5⟩,uf⟩:=OR.out;obtain⟨z0,z1,zf⟩:=R.out
 go_wp2_with fail
 refine(c4 _ R.out (zaa hv.out HB.out)).mono ?_
 rintro e V14 ⟨rfl,hR,ho⟩
 replace OH:=xh (OH.out.onl ho (by omega));replace OR:=xh (OR.out.onl ho (by omega));replace HB:=xh (HB.out.trans (ho.below (by omega) HB.out.size));replace R:=xh hR;clear ho hR;clear q0 q1 q2 q3 q4 q5 qf u0 u1 u2 u3 u4 u5 uf z0 z1 zf;obtain⟨⟨q0,q1,q2,q3,q4,q5⟩,qf⟩:=OH.out;obtain⟨⟨u0,u1,u2,u3,u4,u5⟩,uf⟩:=OR.out;obtain⟨z0,z1,zf⟩:=R.out
 go_wp2_with fail
 refine(c5 _ R.out (zaa hv.out HB.out)).mono ?_
 rintro e V5 ⟨rfl,hR,ho⟩
 replace OH:=xh (OH.out.onl ho (by omega));replace OR:=xh (OR.out.onl ho (by omega));replace HB:=xh (HB.out.trans (ho.below (by omega) HB.out.size));replace R:=xh hR;clear ho hR;clear q0 q1 q2 q3 q4 q5 qf u0 u1 u2 u3 u4 u5 uf z0 z1 zf;obtain⟨⟨q0,q1,q2,q3,q4,q5⟩,qf⟩:=OH.out;obtain⟨⟨u0,u1,u2,u3,u4,u5⟩,uf⟩:=OR.out;obtain⟨z0,z1,zf⟩:=R.out
 go_wp2_with fail
 have o1:Onl (w.heap.size+1+1) V5 (xC V5 (w.heap.size+1+1) (xB false t o r d 0)):=((((((Onl.refl _ _).set 0 _).set 1 _).set 2 _).set 3 _).set 4 _).set 5 _
 replace OH:=xh (OH.out.set false t o r d 0)
 replace OR:=xh (OR.out.onl o1 (by omega))
 replace HB:=xh (HB.out.trans (o1.below (by omega) HB.out.size))
 replace R:=xh (R.out.onl o1 (by omega))
 clear o1
 clear q0 q1 q2 q3 q4 q5 qf u0 u1 u2 u3 u4 u5 uf z0 z1 zf
 generalize (xC V5 (w.heap.size+1+1) (xB false t o r d 0):World)=V6 at*
 refine(c6 _ R.out (zaa hv.out HB.out)).mono ?_
 rintro e V7 ⟨rfl,hR,ho⟩
 replace OH:=xh (OH.out.onl ho (by omega));replace OR:=xh (OR.out.onl ho (by omega));replace HB:=xh (HB.out.trans (ho.below (by omega) HB.out.size));replace R:=xh hR;clear ho hR;obtain⟨⟨q0,q1,q2,q3,q4,q5⟩,qf⟩:=OH.out;obtain⟨⟨u0,u1,u2,u3,u4,u5⟩,uf⟩:=OR.out;obtain⟨z0,z1,zf⟩:=R.out
 go_wp2_with fail
 have o1:Onl (w.heap.size+1+1) V7 (V7.setCell ((w.heap.size+1+1),5) (xI i)):=(Onl.refl _ _).set 5 _
 replace OH:=xh (OH.out.seti i)
 replace OR:=xh (OR.out.onl o1 (by omega))
 replace HB:=xh (HB.out.trans (o1.below (by omega) HB.out.size))
 replace R:=xh (R.out.onl o1 (by omega))
 clear o1
 clear q0 q1 q2 q3 q4 q5 qf u0 u1 u2 u3 u4 u5 uf z0 z1 zf
 generalize V7.setCell ((w.heap.size+1+1),5) (xI i)=V4 at*
 obtain⟨⟨q0,q1,q2,q3,q4,q5⟩,qf⟩:=OH.out;obtain⟨⟨u0,u1,u2,u3,u4,u5⟩,uf⟩:=OR.out;obtain⟨z0,z1,zf⟩:=R.out
 replace OH:Hid (Own6 V4.drew (w.heap.size+1+1) false t o r d i):=OH.out
 replace OR:Hid (Own6 V4.drew w.heap.size false 0 0 0 0 0):=OR.out
 replace R:Hid (Rd V4.drew (w.heap.size+1) s6 e6):=R.out
 replace HB:Hid (Below w.heap.size w V4.drew):=HB.out.drew
 go_region_with (first
  | (go_at_call 151;refine(cC _).mono ?_;rintro e V8 ⟨rfl,hb⟩;replace OH:=xh (OH.out.below hb);replace OR:=xh (OR.out.below hb);replace HB:=xh (HB.out.trans (hb.mono HB.out.size));replace R:=xh (R.out.below hb);clear hb;clear q0 q1 q2 q3 q4 q5 qf u0 u1 u2 u3 u4 u5 uf z0 z1 zf;obtain⟨⟨q0,q1,q2,q3,q4,q5⟩,qf⟩:=OH.out;obtain⟨⟨u0,u1,u2,u3,u4,u5⟩,uf⟩:=OR.out;obtain⟨z0,z1,zf⟩:=R.out)
  | (go_at_call 154;refine(D _ R.out).mono ?_;rintro e V9 ⟨rfl,ho⟩;replace OR:=xh (OR.out.onl ho (by omega));replace HB:=xh (HB.out.trans (ho.below (by omega) HB.out.size));clear ho;clear q0 q1 q2 q3 q4 q5 qf u0 u1 u2 u3 u4 u5 uf z0 z1 zf;obtain⟨⟨u0,u1,u2,u3,u4,u5⟩,uf⟩:=OR.out))
 all_goals
  go_wp2_with fail
  have hs:=set6 OR.out.1 n9 t9 o9 r9 d9 i9
  have hbs:=zbr (b:=w.heap.size) HB.out xl n9 t9 o9 r9 d9 i9
  generalize (xC V9 w.heap.size (xB n9 t9 o9 r9 d9 i9):World)=W5 at*
  obtain⟨s0_,s1_,s2_,s3_,s4_,s5_⟩:=hs
  exact bodyPost_ret (v:=.tuple #[.agg (xB n9 t9 o9 r9 d9 i9),xI to9,xI e9]) (by simp[results,Tryz.results140,go_sem,s0_,s1_,s2_,s3_,s4_,s5_]) rfl ⟨rfl,hbs⟩
end
end Go.Proofs.YtjghebcnmoojmaaGreat
