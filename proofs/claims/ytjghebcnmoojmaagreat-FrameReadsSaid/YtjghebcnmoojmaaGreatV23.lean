/- An object read out of bytes: -/
import Derived.Test.YtjghebcnmoojmaaGreatV19
set_option maxRecDepth 100000
set_option maxHeartbeats 32000000
namespace Go.Proofs.YtjghebcnmoojmaaGreat
open Go.RowKit MX
section
open Go.Sort
theorem zpR (a:Option Addr)(l c:Nat)(at':Int)(xs:List Int)(w:World)(hv0:Bs w (.slice a l c) xs)(n:Bool)(s1 e1 x s2 e2 t o r d i s3 e3 m s4 e4:Int)(hc1:zab xs (at',0)=(4,s1,e1))(hc2:zab xs (s1,e1)=(x,s2,e2))(hc3:zb4 xs (s2,e2)=⟨n,t,o,r,d,i,s3,e3⟩)(hc4:numS xs 2 (s3,e3)=(m,s4,e4))(k9 x9 t9 o9 r9 d9 i9 p9 q9 s9 m9 to9 e9:Int)(n9:Bool)
  (cC:∀W,Calls Tryz.prog 130 #[.agg (xO 4 x n t o r d i 0 0 0 m)] W fun e w'=>e=.returned (xI 0)∧Below W.heap.size W w')
  (D:∀W,Rd W (w.heap.size+1) s4 e4→Calls Tryz.prog 141 #[xP (w.heap.size+1),.agg (xO 4 x n t o r d i 0 0 0 m),.bool true] W fun e w'=>e=.returned (.tuple #[.agg (xO k9 x9 n9 t9 o9 r9 d9 i9 p9 q9 s9 m9),xI to9,xI e9])∧Onl (w.heap.size+1) W w'):
  Calls Tryz.prog 114 #[.slice a l c,xI at'] w fun e w'=>e=.returned (.tuple #[.agg (xO k9 x9 n9 t9 o9 r9 d9 i9 p9 q9 s9 m9),xI to9,xI e9])∧Below w.heap.size w w':=by
 have hv:=xh hv0
 clear hv0
 have c1:∀V,Rd V (w.heap.size+1) at' 0→Bs V (.slice a l c) xs→Calls Tryz.prog 31 #[xP (w.heap.size+1),.slice a l c,xI 1] V fun e w'=>e=.returned (xI 4)∧Rd w' (w.heap.size+1) s1 e1∧Onl (w.heap.size+1) V w':=fun V h hv=>by
  have h:Calls Tryz.prog 31 #[xP (w.heap.size+1),.slice a l c,xI 1] V fun e w'=>e=.returned (xI (zab xs (at',0)).1)∧Rd w' (w.heap.size+1) (zab xs (at',0)).2.1 (zab xs (at',0)).2.2∧Onl (w.heap.size+1) V w':=zad (w.heap.size+1) (.slice a l c) xs 1 at' 0 V h hv
  rw[hc1]at h
  exact h
 have c2:∀V,Rd V (w.heap.size+1) s1 e1→Bs V (.slice a l c) xs→Calls Tryz.prog 31 #[xP (w.heap.size+1),.slice a l c,xI 1] V fun e w'=>e=.returned (xI x)∧Rd w' (w.heap.size+1) s2 e2∧Onl (w.heap.size+1) V w':=fun V h hv=>by
  have h:Calls Tryz.prog 31 #[xP (w.heap.size+1),.slice a l c,xI 1] V fun e w'=>e=.returned (xI (zab xs (s1,e1)).1)∧Rd w' (w.heap.size+1) (zab xs (s1,e1)).2.1 (zab xs (s1,e1)).2.2∧Onl (w.heap.size+1) V w':=zad (w.heap.size+1) (.slice a l c) xs 1 s1 e1 V h hv
  rw[hc2]at h
  exact h
 have hp:zbK 4=.agg #[.bool true,.bool false,.bool true,.bool true]:=rfl
 have c4:∀V,Rd V (w.heap.size+1) s3 e3→Bs V (.slice a l c) xs→Calls Tryz.prog 31 #[xP (w.heap.size+1),.slice a l c,xI 2] V fun e w'=>e=.returned (xI m)∧Rd w' (w.heap.size+1) s4 e4∧Onl (w.heap.size+1) V w':=fun V h hv=>by
  have h:Calls Tryz.prog 31 #[xP (w.heap.size+1),.slice a l c,xI 2] V fun e w'=>e=.returned (xI (numS xs 2 (s3,e3)).1)∧Rd w' (w.heap.size+1) (numS xs 2 (s3,e3)).2.1 (numS xs 2 (s3,e3)).2.2∧Onl (w.heap.size+1) V w':=zad (w.heap.size+1) (.slice a l c) xs 2 s3 e3 V h hv
  rw[hc4]at h
  exact h
 clear hc1 hc2 hc4
 go_enter Tryz.func114,Tryz.ntmps114
 go_wp2_with fail
 refine(za6 _ _).mono ?_
 rintro e _ ⟨rfl,rfl⟩
 go_wp2_with fail
 have OR:=xh ((zah w 0 0 false 0 0 0 0 0 0 0 0 0 63 w.heap.size rfl).below (xr.alloc xl (.cells #[xI at',xI 0] 89)))
 have R:=xh (zaO (w.alloc (.cells xZ 63)) at' (w.heap.size+1) (by simp))
 have HB:Hid (Below w.heap.size w ((w.alloc (.cells xZ 63)).alloc (.cells #[xI at',xI 0] 89))):=(xr.alloc xl _).alloc (by simp) _
 generalize ((w.alloc (.cells xZ 63)).alloc (.cells #[xI at',xI 0] 89))=V0 at*
 refine(c1 _ R.out (zaa hv.out HB.out)).mono ?_
 rintro e V1 ⟨rfl,hR,ho⟩
 replace OR:=xh (OR.out.onl ho (by omega));replace HB:=xh (HB.out.trans (ho.below (by omega) HB.out.size));replace R:=xh hR;clear ho hR
 have HG:Hid (w.heap.size+1<V1.heap.size):=World.block_lt_of_cell? V1 _ R.out.1
 go_wp2_with fail
 have OO:=xh (zah V1 4 0 false 0 0 0 0 0 0 0 0 0 63 V1.heap.size rfl)
 have hb:Below V1.heap.size V1 (V1.alloc (.cells (xO 4 0 false 0 0 0 0 0 0 0 0 0) 63)):=(Below.refl _ V1).alloc xl _
 replace OR:=xh (OR.out.below hb);replace HB:=xh (HB.out.trans (hb.mono HB.out.size));replace R:=xh (R.out.below hb);clear hb
 generalize V1.alloc (.cells (xO 4 0 false 0 0 0 0 0 0 0 0 0) 63)=V2 at*
 refine(za3 4 _).mono ?_
 rintro e V3 ⟨rfl,hb⟩
 rw[hp]
 replace OR:=xh (OR.out.below hb);replace HB:=xh (HB.out.trans (hb.mono HB.out.size));replace R:=xh (R.out.below hb);replace OO:=xh (OO.out.below hb);clear hb
 have HH:Hid (V1.heap.size<V3.heap.size):=OO.out.lt
 go_wp2_with fail
 have PP:=xh (za4 V3 true false true true 182)
 have hb:Below V3.heap.size V3 (V3.alloc (.cells #[.bool true,.bool false,.bool true,.bool true] 182)):=(Below.refl _ V3).alloc xl _
 replace OR:=xh (OR.out.below hb);replace HB:=xh (HB.out.trans (hb.mono HB.out.size));replace R:=xh (R.out.below hb);replace OO:=xh (OO.out.below hb);clear hb
 generalize V3.alloc (.cells #[.bool true,.bool false,.bool true,.bool true] 182)=V4 at*
 refine(zay (w.heap.size+1) true s1 e1 _ R.out).mono ?_
 rintro e V5 ⟨rfl,hR,ho⟩
 rw[show zai e1 true=e1 by simp[zai]]at hR
 replace OR:=xh (OR.out.onl ho (by omega));replace HB:=xh (HB.out.trans (ho.below (by omega) HB.out.size));replace R:=xh hR;replace OO:=xh (OO.out.onl ho (by have:=HG.out;have:=HH.out;omega));replace PP:=xh (PP.out.onl ho (by have:=HG.out;have:=HH.out;omega));clear ho hR
 go_wp2_with fail
 refine(c2 _ R.out (zaa hv.out HB.out)).mono ?_
 rintro e V6 ⟨rfl,hR,ho⟩
 replace OR:=xh (OR.out.onl ho (by omega));replace HB:=xh (HB.out.trans (ho.below (by omega) HB.out.size));replace R:=xh hR;replace OO:=xh (OO.out.onl ho (by have:=HG.out;have:=HH.out;omega));replace PP:=xh (PP.out.onl ho (by have:=HG.out;have:=HH.out;omega));clear ho hR
 obtain⟨c0,c1,c2,c3,c4,c5,c6,c7,c8,c9,c10,c11⟩:=OO.out.1
 have cf:=OO.out.2
 obtain⟨V7,hV7⟩:∃V7,(V6.setCell (V1.heap.size,1) (xI x))=V7:=⟨_,rfl⟩
 have o1:Onl V1.heap.size V6 (V6.setCell (V1.heap.size,1) (xI x)):=zbO V6 V1.heap.size x
 have OO2:=xh (OO.out.setx x)
 rw[hV7]at o1 OO2
 replace OO:=OO2
 clear OO2
 replace OR:=xh (OR.out.onl o1 (by have:=HG.out;have:=HH.out;omega))
 replace HB:=xh (HB.out.trans (o1.below (by have:=HG.out;have:=HH.out;omega) HB.out.size))
 replace R:=xh (R.out.onl o1 (by have:=HG.out;have:=HH.out;omega))
 replace PP:=xh (PP.out.onl o1 (by have:=HG.out;have:=HH.out;omega))
 clear o1
 obtain⟨p0,p1,p2,p3⟩:=PP.out
 go_wp2_with fail
 clear c0 c1 c2 c3 c4 c5 c6 c7 c8 c9 c10 c11 cf hV7 p0 p1 p2 p3
 refine(zdo (w.heap.size+1) (.slice a l c) xs s2 e2 n t o r d i s3 e3 _ R.out (zaa hv.out HB.out) hc3).mono ?_
 rintro e V8 ⟨rfl,hR,ho⟩
 replace OR:=xh (OR.out.onl ho (by omega));replace HB:=xh (HB.out.trans (ho.below (by omega) HB.out.size));replace R:=xh hR;replace OO:=xh (OO.out.onl ho (by have:=HG.out;have:=HH.out;omega));replace PP:=xh (PP.out.onl ho (by have:=HG.out;have:=HH.out;omega));clear ho hR
 obtain⟨c0,c1,c2,c3,c4,c5,c6,c7,c8,c9,c10,c11⟩:=OO.out.1
 have cf:=OO.out.2
 obtain⟨V9,hV9⟩:∃V9,((((((V8.setCell (V1.heap.size,2) (.bool n)).setCell (V1.heap.size,3) (xI t)).setCell (V1.heap.size,4) (xI o)).setCell (V1.heap.size,5) (xI r)).setCell (V1.heap.size,6) (xI d)).setCell (V1.heap.size,7) (xI i))=V9:=⟨_,rfl⟩
 have o1:Onl V1.heap.size V8 ((((((V8.setCell (V1.heap.size,2) (.bool n)).setCell (V1.heap.size,3) (xI t)).setCell (V1.heap.size,4) (xI o)).setCell (V1.heap.size,5) (xI r)).setCell (V1.heap.size,6) (xI d)).setCell (V1.heap.size,7) (xI i)):=zee V8 V1.heap.size n t o r d i
 have OO2:=xh (OO.out.seth n t o r d i)
 rw[hV9]at o1 OO2
 replace OO:=OO2
 clear OO2
 replace OR:=xh (OR.out.onl o1 (by have:=HG.out;have:=HH.out;omega))
 replace HB:=xh (HB.out.trans (o1.below (by have:=HG.out;have:=HH.out;omega) HB.out.size))
 replace R:=xh (R.out.onl o1 (by have:=HG.out;have:=HH.out;omega))
 replace PP:=xh (PP.out.onl o1 (by have:=HG.out;have:=HH.out;omega))
 clear o1
 obtain⟨p0,p1,p2,p3⟩:=PP.out
 go_wp2_with fail
 clear c0 c1 c2 c3 c4 c5 c6 c7 c8 c9 c10 c11 cf hV9 p0 p1 p2 p3
 refine(c4 _ R.out (zaa hv.out HB.out)).mono ?_
 rintro e V10 ⟨rfl,hR,ho⟩
 replace OR:=xh (OR.out.onl ho (by omega));replace HB:=xh (HB.out.trans (ho.below (by omega) HB.out.size));replace R:=xh hR;replace OO:=xh (OO.out.onl ho (by have:=HG.out;have:=HH.out;omega));replace PP:=xh (PP.out.onl ho (by have:=HG.out;have:=HH.out;omega));clear ho hR
 obtain⟨c0,c1,c2,c3,c4,c5,c6,c7,c8,c9,c10,c11⟩:=OO.out.1
 have cf:=OO.out.2
 obtain⟨V11,hV11⟩:∃V11,(V10.setCell (V1.heap.size,11) (xI m))=V11:=⟨_,rfl⟩
 have o1:Onl V1.heap.size V10 (V10.setCell (V1.heap.size,11) (xI m)):=zhE V10 V1.heap.size m
 have OO2:=xh (OO.out.setm m)
 rw[hV11]at o1 OO2
 replace OO:=OO2
 clear OO2
 replace OR:=xh (OR.out.onl o1 (by have:=HG.out;have:=HH.out;omega))
 replace HB:=xh (HB.out.trans (o1.below (by have:=HG.out;have:=HH.out;omega) HB.out.size))
 replace R:=xh (R.out.onl o1 (by have:=HG.out;have:=HH.out;omega))
 replace PP:=xh (PP.out.onl o1 (by have:=HG.out;have:=HH.out;omega))
 clear o1
 obtain⟨p0,p1,p2,p3⟩:=PP.out
 go_wp2_with fail
 clear c0 c1 c2 c3 c4 c5 c6 c7 c8 c9 c10 c11 cf hV11 p0 p1 p2 p3
 replace OO:Hid (Own12 V11.drew V1.heap.size 4 x n t o r d i 0 0 0 m):=OO.out
 replace OR:Hid (Own12 V11.drew w.heap.size 0 0 false 0 0 0 0 0 0 0 0 0):=OR.out
 replace R:Hid (Rd V11.drew (w.heap.size+1) s4 e4):=R.out
 replace HB:Hid (Below w.heap.size w V11.drew):=HB.out.drew
 obtain⟨c0,c1,c2,c3,c4,c5,c6,c7,c8,c9,c10,c11⟩:=(show Own12 V11 V1.heap.size 4 x n t o r d i 0 0 0 m from OO.out).1
 clear PP HH
 go_region_with (first
  | (go_at_call 130;refine(cC _).mono ?_;rintro e V88 ⟨rfl,hb⟩;replace OO:=xh (OO.out.below hb);replace OR:=xh (OR.out.below hb);replace HB:=xh (HB.out.trans (hb.mono HB.out.size));replace R:=xh (R.out.below hb);clear hb;clear c0 c1 c2 c3 c4 c5 c6 c7 c8 c9 c10 c11;obtain⟨c0,c1,c2,c3,c4,c5,c6,c7,c8,c9,c10,c11⟩:=OO.out.1)
  | (go_at_call 141;refine(D _ R.out).mono ?_;rintro e V99 ⟨rfl,ho⟩;replace OR:=xh (OR.out.onl ho (by omega));replace HB:=xh (HB.out.trans (ho.below (by omega) HB.out.size));clear ho;clear c0 c1 c2 c3 c4 c5 c6 c7 c8 c9 c10 c11;obtain⟨⟨u0,u1,u2,u3,u4,u5,u6,u7,u8,u9,u10,u11⟩,uf⟩:=OR.out))
 all_goals
  go_wp2_with fail
  have hs:=(OR.out.setall k9 x9 n9 t9 o9 r9 d9 i9 p9 q9 s9 m9).1
  have hbs:=za5 (b:=w.heap.size) HB.out xl k9 x9 n9 t9 o9 r9 d9 i9 p9 q9 s9 m9
  generalize (xC V99 w.heap.size (xO k9 x9 n9 t9 o9 r9 d9 i9 p9 q9 s9 m9):World)=W5 at*
  obtain⟨s0_,s1_,s2_,s3_,s4_,s5_,s6_,s7_,s8_,s9_,s10_,s11_⟩:=hs
  exact bodyPost_ret (v:=.tuple #[.agg (xO k9 x9 n9 t9 o9 r9 d9 i9 p9 q9 s9 m9),xI to9,xI e9]) (by simp[results,Tryz.results114,go_sem,s0_,s1_,s2_,s3_,s4_,s5_,s6_,s7_,s8_,s9_,s10_,s11_]) rfl ⟨rfl,hbs⟩
theorem zpM (a:Option Addr)(l c:Nat)(at':Int)(xs:List Int)(w:World)(hv0:Bs w (.slice a l c) xs)(n:Bool)(s1 e1 x s2 e2 t o r d i s3 e3 m s4 e4:Int)(hc1:zab xs (at',0)=(4,s1,e1))(hc2:zab xs (s1,e1)=(x,s2,e2))(hc3:zb4 xs (s2,e2)=⟨n,t,o,r,d,i,s3,e3⟩)(hc4:numS xs 2 (s3,e3)=(m,s4,e4))(k9 x9 t9 o9 r9 d9 i9 p9 q9 s9 m9 to9 e9:Int)(n9:Bool)
  (cC:∀W,Calls Tryz.prog 130 #[.agg (xO 4 x n t o r d i 0 0 0 m)] W fun e w'=>e=.returned (xI 1)∧Below W.heap.size W w')
  (D:∀W,Rd W (w.heap.size+1) s4 e4→Calls Tryz.prog 141 #[xP (w.heap.size+1),.agg (xO 4 x n t o r d i 0 0 0 m),.bool false] W fun e w'=>e=.returned (.tuple #[.agg (xO k9 x9 n9 t9 o9 r9 d9 i9 p9 q9 s9 m9),xI to9,xI e9])∧Onl (w.heap.size+1) W w'):
  Calls Tryz.prog 114 #[.slice a l c,xI at'] w fun e w'=>e=.returned (.tuple #[.agg (xO k9 x9 n9 t9 o9 r9 d9 i9 p9 q9 s9 m9),xI to9,xI e9])∧Below w.heap.size w w':=by
 have hv:=xh hv0
 clear hv0
 have c1:∀V,Rd V (w.heap.size+1) at' 0→Bs V (.slice a l c) xs→Calls Tryz.prog 31 #[xP (w.heap.size+1),.slice a l c,xI 1] V fun e w'=>e=.returned (xI 4)∧Rd w' (w.heap.size+1) s1 e1∧Onl (w.heap.size+1) V w':=fun V h hv=>by
  have h:Calls Tryz.prog 31 #[xP (w.heap.size+1),.slice a l c,xI 1] V fun e w'=>e=.returned (xI (zab xs (at',0)).1)∧Rd w' (w.heap.size+1) (zab xs (at',0)).2.1 (zab xs (at',0)).2.2∧Onl (w.heap.size+1) V w':=zad (w.heap.size+1) (.slice a l c) xs 1 at' 0 V h hv
  rw[hc1]at h
  exact h
 have c2:∀V,Rd V (w.heap.size+1) s1 e1→Bs V (.slice a l c) xs→Calls Tryz.prog 31 #[xP (w.heap.size+1),.slice a l c,xI 1] V fun e w'=>e=.returned (xI x)∧Rd w' (w.heap.size+1) s2 e2∧Onl (w.heap.size+1) V w':=fun V h hv=>by
  have h:Calls Tryz.prog 31 #[xP (w.heap.size+1),.slice a l c,xI 1] V fun e w'=>e=.returned (xI (zab xs (s1,e1)).1)∧Rd w' (w.heap.size+1) (zab xs (s1,e1)).2.1 (zab xs (s1,e1)).2.2∧Onl (w.heap.size+1) V w':=zad (w.heap.size+1) (.slice a l c) xs 1 s1 e1 V h hv
  rw[hc2]at h
  exact h
 have hp:zbK 4=.agg #[.bool true,.bool false,.bool true,.bool true]:=rfl
 have c4:∀V,Rd V (w.heap.size+1) s3 e3→Bs V (.slice a l c) xs→Calls Tryz.prog 31 #[xP (w.heap.size+1),.slice a l c,xI 2] V fun e w'=>e=.returned (xI m)∧Rd w' (w.heap.size+1) s4 e4∧Onl (w.heap.size+1) V w':=fun V h hv=>by
  have h:Calls Tryz.prog 31 #[xP (w.heap.size+1),.slice a l c,xI 2] V fun e w'=>e=.returned (xI (numS xs 2 (s3,e3)).1)∧Rd w' (w.heap.size+1) (numS xs 2 (s3,e3)).2.1 (numS xs 2 (s3,e3)).2.2∧Onl (w.heap.size+1) V w':=zad (w.heap.size+1) (.slice a l c) xs 2 s3 e3 V h hv
  rw[hc4]at h
  exact h
 clear hc1 hc2 hc4
 go_enter Tryz.func114,Tryz.ntmps114
 go_wp2_with fail
 refine(za6 _ _).mono ?_
 rintro e _ ⟨rfl,rfl⟩
 go_wp2_with fail
 have OR:=xh ((zah w 0 0 false 0 0 0 0 0 0 0 0 0 63 w.heap.size rfl).below (xr.alloc xl (.cells #[xI at',xI 0] 89)))
 have R:=xh (zaO (w.alloc (.cells xZ 63)) at' (w.heap.size+1) (by simp))
 have HB:Hid (Below w.heap.size w ((w.alloc (.cells xZ 63)).alloc (.cells #[xI at',xI 0] 89))):=(xr.alloc xl _).alloc (by simp) _
 generalize ((w.alloc (.cells xZ 63)).alloc (.cells #[xI at',xI 0] 89))=V0 at*
 refine(c1 _ R.out (zaa hv.out HB.out)).mono ?_
 rintro e V1 ⟨rfl,hR,ho⟩
 replace OR:=xh (OR.out.onl ho (by omega));replace HB:=xh (HB.out.trans (ho.below (by omega) HB.out.size));replace R:=xh hR;clear ho hR
 have HG:Hid (w.heap.size+1<V1.heap.size):=World.block_lt_of_cell? V1 _ R.out.1
 go_wp2_with fail
 have OO:=xh (zah V1 4 0 false 0 0 0 0 0 0 0 0 0 63 V1.heap.size rfl)
 have hb:Below V1.heap.size V1 (V1.alloc (.cells (xO 4 0 false 0 0 0 0 0 0 0 0 0) 63)):=(Below.refl _ V1).alloc xl _
 replace OR:=xh (OR.out.below hb);replace HB:=xh (HB.out.trans (hb.mono HB.out.size));replace R:=xh (R.out.below hb);clear hb
 generalize V1.alloc (.cells (xO 4 0 false 0 0 0 0 0 0 0 0 0) 63)=V2 at*
 refine(za3 4 _).mono ?_
 rintro e V3 ⟨rfl,hb⟩
 rw[hp]
 replace OR:=xh (OR.out.below hb);replace HB:=xh (HB.out.trans (hb.mono HB.out.size));replace R:=xh (R.out.below hb);replace OO:=xh (OO.out.below hb);clear hb
 have HH:Hid (V1.heap.size<V3.heap.size):=OO.out.lt
 go_wp2_with fail
 have PP:=xh (za4 V3 true false true true 182)
 have hb:Below V3.heap.size V3 (V3.alloc (.cells #[.bool true,.bool false,.bool true,.bool true] 182)):=(Below.refl _ V3).alloc xl _
 replace OR:=xh (OR.out.below hb);replace HB:=xh (HB.out.trans (hb.mono HB.out.size));replace R:=xh (R.out.below hb);replace OO:=xh (OO.out.below hb);clear hb
 generalize V3.alloc (.cells #[.bool true,.bool false,.bool true,.bool true] 182)=V4 at*
 refine(zay (w.heap.size+1) true s1 e1 _ R.out).mono ?_
 rintro e V5 ⟨rfl,hR,ho⟩
 rw[show zai e1 true=e1 by simp[zai]]at hR
 replace OR:=xh (OR.out.onl ho (by omega));replace HB:=xh (HB.out.trans (ho.below (by omega) HB.out.size));replace R:=xh hR;replace OO:=xh (OO.out.onl ho (by have:=HG.out;have:=HH.out;omega));replace PP:=xh (PP.out.onl ho (by have:=HG.out;have:=HH.out;omega));clear ho hR
 go_wp2_with fail
 refine(c2 _ R.out (zaa hv.out HB.out)).mono ?_
 rintro e V6 ⟨rfl,hR,ho⟩
 replace OR:=xh (OR.out.onl ho (by omega));replace HB:=xh (HB.out.trans (ho.below (by omega) HB.out.size));replace R:=xh hR;replace OO:=xh (OO.out.onl ho (by have:=HG.out;have:=HH.out;omega));replace PP:=xh (PP.out.onl ho (by have:=HG.out;have:=HH.out;omega));clear ho hR
 obtain⟨c0,c1,c2,c3,c4,c5,c6,c7,c8,c9,c10,c11⟩:=OO.out.1
 have cf:=OO.out.2
 obtain⟨V7,hV7⟩:∃V7,(V6.setCell (V1.heap.size,1) (xI x))=V7:=⟨_,rfl⟩
 have o1:Onl V1.heap.size V6 (V6.setCell (V1.heap.size,1) (xI x)):=zbO V6 V1.heap.size x
 have OO2:=xh (OO.out.setx x)
 rw[hV7]at o1 OO2
 replace OO:=OO2
 clear OO2
 replace OR:=xh (OR.out.onl o1 (by have:=HG.out;have:=HH.out;omega))
 replace HB:=xh (HB.out.trans (o1.below (by have:=HG.out;have:=HH.out;omega) HB.out.size))
 replace R:=xh (R.out.onl o1 (by have:=HG.out;have:=HH.out;omega))
 replace PP:=xh (PP.out.onl o1 (by have:=HG.out;have:=HH.out;omega))
 clear o1
 obtain⟨p0,p1,p2,p3⟩:=PP.out
 go_wp2_with fail
 clear c0 c1 c2 c3 c4 c5 c6 c7 c8 c9 c10 c11 cf hV7 p0 p1 p2 p3
 refine(zdo (w.heap.size+1) (.slice a l c) xs s2 e2 n t o r d i s3 e3 _ R.out (zaa hv.out HB.out) hc3).mono ?_
 rintro e V8 ⟨rfl,hR,ho⟩
 replace OR:=xh (OR.out.onl ho (by omega));replace HB:=xh (HB.out.trans (ho.below (by omega) HB.out.size));replace R:=xh hR;replace OO:=xh (OO.out.onl ho (by have:=HG.out;have:=HH.out;omega));replace PP:=xh (PP.out.onl ho (by have:=HG.out;have:=HH.out;omega));clear ho hR
 obtain⟨c0,c1,c2,c3,c4,c5,c6,c7,c8,c9,c10,c11⟩:=OO.out.1
 have cf:=OO.out.2
 obtain⟨V9,hV9⟩:∃V9,((((((V8.setCell (V1.heap.size,2) (.bool n)).setCell (V1.heap.size,3) (xI t)).setCell (V1.heap.size,4) (xI o)).setCell (V1.heap.size,5) (xI r)).setCell (V1.heap.size,6) (xI d)).setCell (V1.heap.size,7) (xI i))=V9:=⟨_,rfl⟩
 have o1:Onl V1.heap.size V8 ((((((V8.setCell (V1.heap.size,2) (.bool n)).setCell (V1.heap.size,3) (xI t)).setCell (V1.heap.size,4) (xI o)).setCell (V1.heap.size,5) (xI r)).setCell (V1.heap.size,6) (xI d)).setCell (V1.heap.size,7) (xI i)):=zee V8 V1.heap.size n t o r d i
 have OO2:=xh (OO.out.seth n t o r d i)
 rw[hV9]at o1 OO2
 replace OO:=OO2
 clear OO2
 replace OR:=xh (OR.out.onl o1 (by have:=HG.out;have:=HH.out;omega))
 replace HB:=xh (HB.out.trans (o1.below (by have:=HG.out;have:=HH.out;omega) HB.out.size))
 replace R:=xh (R.out.onl o1 (by have:=HG.out;have:=HH.out;omega))
 replace PP:=xh (PP.out.onl o1 (by have:=HG.out;have:=HH.out;omega))
 clear o1
 obtain⟨p0,p1,p2,p3⟩:=PP.out
 go_wp2_with fail
 clear c0 c1 c2 c3 c4 c5 c6 c7 c8 c9 c10 c11 cf hV9 p0 p1 p2 p3
 refine(c4 _ R.out (zaa hv.out HB.out)).mono ?_
 rintro e V10 ⟨rfl,hR,ho⟩
 replace OR:=xh (OR.out.onl ho (by omega));replace HB:=xh (HB.out.trans (ho.below (by omega) HB.out.size));replace R:=xh hR;replace OO:=xh (OO.out.onl ho (by have:=HG.out;have:=HH.out;omega));replace PP:=xh (PP.out.onl ho (by have:=HG.out;have:=HH.out;omega));clear ho hR
 obtain⟨c0,c1,c2,c3,c4,c5,c6,c7,c8,c9,c10,c11⟩:=OO.out.1
 have cf:=OO.out.2
 obtain⟨V11,hV11⟩:∃V11,(V10.setCell (V1.heap.size,11) (xI m))=V11:=⟨_,rfl⟩
 have o1:Onl V1.heap.size V10 (V10.setCell (V1.heap.size,11) (xI m)):=zhE V10 V1.heap.size m
 have OO2:=xh (OO.out.setm m)
 rw[hV11]at o1 OO2
 replace OO:=OO2
 clear OO2
 replace OR:=xh (OR.out.onl o1 (by have:=HG.out;have:=HH.out;omega))
 replace HB:=xh (HB.out.trans (o1.below (by have:=HG.out;have:=HH.out;omega) HB.out.size))
 replace R:=xh (R.out.onl o1 (by have:=HG.out;have:=HH.out;omega))
 replace PP:=xh (PP.out.onl o1 (by have:=HG.out;have:=HH.out;omega))
 clear o1
 obtain⟨p0,p1,p2,p3⟩:=PP.out
 go_wp2_with fail
 clear c0 c1 c2 c3 c4 c5 c6 c7 c8 c9 c10 c11 cf hV11 p0 p1 p2 p3
 replace OO:Hid (Own12 V11.drew V1.heap.size 4 x n t o r d i 0 0 0 m):=OO.out
 replace OR:Hid (Own12 V11.drew w.heap.size 0 0 false 0 0 0 0 0 0 0 0 0):=OR.out
 replace R:Hid (Rd V11.drew (w.heap.size+1) s4 e4):=R.out
 replace HB:Hid (Below w.heap.size w V11.drew):=HB.out.drew
 obtain⟨c0,c1,c2,c3,c4,c5,c6,c7,c8,c9,c10,c11⟩:=(show Own12 V11 V1.heap.size 4 x n t o r d i 0 0 0 m from OO.out).1
 clear PP HH
 go_region_with (first
  | (go_at_call 130;refine(cC _).mono ?_;rintro e V88 ⟨rfl,hb⟩;replace OO:=xh (OO.out.below hb);replace OR:=xh (OR.out.below hb);replace HB:=xh (HB.out.trans (hb.mono HB.out.size));replace R:=xh (R.out.below hb);clear hb;clear c0 c1 c2 c3 c4 c5 c6 c7 c8 c9 c10 c11;obtain⟨c0,c1,c2,c3,c4,c5,c6,c7,c8,c9,c10,c11⟩:=OO.out.1)
  | (go_at_call 141;refine(D _ R.out).mono ?_;rintro e V99 ⟨rfl,ho⟩;replace OR:=xh (OR.out.onl ho (by omega));replace HB:=xh (HB.out.trans (ho.below (by omega) HB.out.size));clear ho;clear c0 c1 c2 c3 c4 c5 c6 c7 c8 c9 c10 c11;obtain⟨⟨u0,u1,u2,u3,u4,u5,u6,u7,u8,u9,u10,u11⟩,uf⟩:=OR.out))
 all_goals
  go_wp2_with fail
  have hs:=(OR.out.setall k9 x9 n9 t9 o9 r9 d9 i9 p9 q9 s9 m9).1
  have hbs:=za5 (b:=w.heap.size) HB.out xl k9 x9 n9 t9 o9 r9 d9 i9 p9 q9 s9 m9
  generalize (xC V99 w.heap.size (xO k9 x9 n9 t9 o9 r9 d9 i9 p9 q9 s9 m9):World)=W5 at*
  obtain⟨s0_,s1_,s2_,s3_,s4_,s5_,s6_,s7_,s8_,s9_,s10_,s11_⟩:=hs
  exact bodyPost_ret (v:=.tuple #[.agg (xO k9 x9 n9 t9 o9 r9 d9 i9 p9 q9 s9 m9),xI to9,xI e9]) (by simp[results,Tryz.results114,go_sem,s0_,s1_,s2_,s3_,s4_,s5_,s6_,s7_,s8_,s9_,s10_,s11_]) rfl ⟨rfl,hbs⟩
end
end Go.Proofs.YtjghebcnmoojmaaGreat
