/- A packet read out of bytes: -/
import Derived.Test.YtjghebcnmoojmaaGreatV34
set_option maxRecDepth 100000
set_option maxHeartbeats 32000000
namespace Go.Proofs.YtjghebcnmoojmaaGreat
open Go.RowKit MX
theorem zeT (b:Nat)(a:Option Addr)(l c:Nat)(xs:List Int)(n s e s2 e2:Int)(X:ByteArray)(h1:zd4 xs n (s,e)=(X,s2,e2))(hk:e=0→(1≤s∧s≤xs.length)∧0≤n∧n≤65535)(g:Nat)(V:World)(h:Rd V b s e)(hn:V.cell? (xQ g 0)=xJ n)(hv:Bs V (.slice a l c) xs):
  Calls Tryz.prog 117 #[xP b,.slice a l c,xW 118 g] V fun e w'=>e=.returned (.string X)∧Rd w' b s2 e2∧Onl b V w':=by
 have h2:=zjw b (.slice a l c) xs s e g n V h hn hv hk
 rw[h1]at h2
 exact h2
theorem znv (a:Option Addr)(l c:Nat)(q:Int)(xs:List Int)(w:World)(hv0:Bs w (.slice a l c) xs)(m0 s1 e1 m1 s2 e2 m2 s3 e3 m3 s4 e4 m4 s5 e5 e6 s7 e7 r0 r1 r2 r3 t9 e9:Int)(X rx:ByteArray)(h1:numS xs 1 (q,0)=(m0,s1,e1))(h2:numS xs 1 (s1,e1)=(m1,s2,e2))(h3:numS xs 1 (s2,e2)=(m2,s3,e3))(h4:numS xs 2 (s3,e3)=(m3,s4,e4))(h5:numS xs 2 (s4,e4)=(m4,s5,e5))(ok6:Bool)(hk6:decide (m4≤256)=ok6)(h6:zai e5 ok6=e6)(h7:zd4 xs m4 (s5,e6)=(X,s7,e7))(hk:e6=0→(1≤s5∧s5≤xs.length)∧0≤m4∧m4≤65535)
  (cC:∀W,Calls Tryz.prog 105 #[.agg (xA m0 m1 m2 m3 (.string X))] W fun e w'=>e=.returned (xI 0)∧Below W.heap.size W w')
  (D:∀W,Rd W (w.heap.size+1) s7 e7→Calls Tryz.prog 120 #[xP (w.heap.size+1),.agg (xA m0 m1 m2 m3 (.string X)),.bool true] W fun e w'=>e=.returned (.tuple #[.agg (xA r0 r1 r2 r3 (.string rx)),xI t9,xI e9])∧Onl (w.heap.size+1) W w'):
  Calls Tryz.prog 97 #[.slice a l c,xI q] w fun e w'=>e=.returned (.tuple #[.agg (xA r0 r1 r2 r3 (.string rx)),xI t9,xI e9])∧Below w.heap.size w w':=by
 have hv:=xh hv0
 have c1:=xh (zbd (w.heap.size+1) a l c xs 1 q 0 m0 s1 e1 h1)
 have c2:=xh (zbd (w.heap.size+1) a l c xs 1 s1 e1 m1 s2 e2 h2)
 have c3:=xh (zbd (w.heap.size+1) a l c xs 1 s2 e2 m2 s3 e3 h3)
 have c4:=xh (zbd (w.heap.size+1) a l c xs 2 s3 e3 m3 s4 e4 h4)
 have c5:=xh (zbd (w.heap.size+1) a l c xs 2 s4 e4 m4 s5 e5 h5)
 have c6:=xh (fun W h=>(zay (w.heap.size+1) ok6 s5 e5 W h))
 have c7:=xh (fun g=>zeT (w.heap.size+1) a l c xs m4 s5 e6 s7 e7 X h7 hk g)
 have H6:=xh h6
 clear hv0 h1 h2 h3 h4 h5 h6 h7 hk
 go_enter Tryz.func97,Tryz.ntmps97
 go_wp2_with fail
 refine(za6 _ _).mono ?_
 rintro e _ ⟨rfl,rfl⟩
 have OR:=xh ((za1 w 0 0 0 0 ⟨#[]⟩ 48 w.heap.size rfl).below (xr.alloc xl (.cells #[xI q,xI 0] 89)))
 have R:=xh (zaO (w.alloc (.cells xH 48)) q (w.heap.size+1) (by simp))
 have HB:Hid (Below w.heap.size w ((w.alloc (.cells xH 48)).alloc (.cells #[xI q,xI 0] 89))):=(xr.alloc xl _).alloc (by simp) _
 go_wp2_with fail
 generalize ((w.alloc (.cells xH 48)).alloc (.cells #[xI q,xI 0] 89))=V0 at*
 refine(c1.out _ R.out (zaa hv.out HB.out)).mono ?_
 rintro e V1 ⟨rfl,hR,ho⟩
 replace OR:=xh (OR.out.onl ho (by omega))
 replace HB:=xh (HB.out.trans (ho.below (by omega) HB.out.size))
 replace R:=xh hR
 clear ho hR
 go_wp2_with fail
 refine(c2.out _ R.out (zaa hv.out HB.out)).mono ?_
 rintro e V2 ⟨rfl,hR,ho⟩
 replace OR:=xh (OR.out.onl ho (by omega))
 replace HB:=xh (HB.out.trans (ho.below (by omega) HB.out.size))
 replace R:=xh hR
 clear ho hR
 go_wp2_with fail
 refine(c3.out _ R.out (zaa hv.out HB.out)).mono ?_
 rintro e V3 ⟨rfl,hR,ho⟩
 replace OR:=xh (OR.out.onl ho (by omega))
 replace HB:=xh (HB.out.trans (ho.below (by omega) HB.out.size))
 replace R:=xh hR
 clear ho hR
 go_wp2_with fail
 refine(c4.out _ R.out (zaa hv.out HB.out)).mono ?_
 rintro e V4 ⟨rfl,hR,ho⟩
 replace OR:=xh (OR.out.onl ho (by omega))
 replace HB:=xh (HB.out.trans (ho.below (by omega) HB.out.size))
 replace R:=xh hR
 clear ho hR
 have OP:=xh (za1 V4 m0 m1 m2 m3 ⟨#[]⟩ 48 V4.heap.size rfl)
 have hb:Below V4.heap.size V4 (V4.alloc (.cells (xA m0 m1 m2 m3 xT) 48)):=(Below.refl _ V4).alloc xl _
 have HP:Hid ((w.heap.size+1)<V4.heap.size):=World.block_lt_of_cell? V4 _ R.out.1
 replace OR:=xh (OR.out.below hb)
 replace HB:=xh (HB.out.trans (hb.mono HB.out.size))
 replace R:=xh (R.out.below hb)
 clear hb
 go_wp2_with fail
 obtain⟨P,hP⟩:∃P,V4.heap.size=P:=⟨_,rfl⟩
 rw[hP]at HP OP
 obtain⟨V5,hV5⟩:∃V5,(V4.alloc (.cells (xA m0 m1 m2 m3 xT) 48))=V5:=⟨_,rfl⟩
 rw[hV5]at OP OR HB R
 try rw[hP]
 try rw[hV5]
 clear hP hV5
 refine(c5.out _ R.out (zaa hv.out HB.out)).mono ?_
 rintro e V6 ⟨rfl,hR,ho⟩
 replace OR:=xh (OR.out.onl ho (by omega))
 replace HB:=xh (HB.out.trans (ho.below (by omega) HB.out.size))
 replace OP:=xh (OP.out.onl ho (by have:=HP.out;omega))
 replace R:=xh hR
 clear ho hR
 have HN:Hid ((V6.alloc (.cells #[xI m4] 3)).cell? (V6.heap.size,0)=xJ m4):=by show _=_;simp
 have hb:Below V6.heap.size V6 (V6.alloc (.cells #[xI m4] 3)):=(Below.refl _ V6).alloc xl _
 have HL:Hid (P<V6.heap.size):=OP.out.lt
 replace OR:=xh (OR.out.below hb)
 replace OP:=xh (OP.out.below hb)
 replace HB:=xh (HB.out.trans (hb.mono HB.out.size))
 replace R:=xh (R.out.below hb)
 clear hb
 have hn:=HN.out
 go_wp2_with fail
 clear hn
 obtain⟨L,hL⟩:∃L,V6.heap.size=L:=⟨_,rfl⟩
 rw[hL]at HL HN
 obtain⟨V7,hV7⟩:∃V7,(V6.alloc (.cells #[xI m4] 3))=V7:=⟨_,rfl⟩
 rw[hV7]at OP OR HB R HN
 try rw[hL]
 try rw[hV7]
 clear hL hV7
 replace HL:Hid ((w.heap.size+1)<P∧P<L):=⟨HP.out,HL.out⟩
 clear hk6
 refine(c6.out _ R.out).mono ?_
 rintro e V8 ⟨rfl,hR,ho⟩
 rw[H6.out]at hR
 replace OR:=xh (OR.out.onl ho (by omega))
 replace HB:=xh (HB.out.trans (ho.below (by omega) HB.out.size))
 replace OP:=xh (OP.out.onl ho (by have:=HP.out;omega))
 replace HN:=xh (((ho).cell (p:=xQ L 0) (show L≠(w.heap.size+1)by have:=HL.out;omega) (World.block_lt_of_cell? _ _ HN.out)).trans HN.out)
 replace R:=xh hR
 clear ho hR
 have hn:=HN.out
 go_wp2_with fail
 clear hn
 refine(c7.out L _ R.out HN.out (zaa hv.out HB.out)).mono ?_
 rintro e V9 ⟨rfl,hR,ho⟩
 replace OR:=xh (OR.out.onl ho (by omega))
 replace HB:=xh (HB.out.trans (ho.below (by omega) HB.out.size))
 replace OP:=xh (OP.out.onl ho (by have:=HP.out;omega))
 replace R:=xh hR
 clear ho hR
 obtain⟨⟨p0,p1,p2,p3,p4⟩,pf⟩:=OP.out
 go_wp2_with fail
 clear p0 p1 p2 p3 p4 pf
 have ho:Onl P V9 (V9.setCell (xQ P 4) (.string X)):=(Onl.refl _ _).set 4 _
 replace OP:=xh (OP.out.set4 X)
 replace OR:=xh (OR.out.onl ho (by have:=HP.out;omega))
 replace R:=xh (R.out.onl ho (by have:=HP.out;omega))
 replace HB:=xh (HB.out.trans (ho.below (by have:=HP.out;omega) HB.out.size))
 clear ho
 generalize (V9.setCell (xQ P 4) (.string X))=V10 at*
 replace OP:Hid (OwnP V10.drew P m0 m1 m2 m3 X):=OP.out
 replace OR:Hid (OwnP V10.drew w.heap.size 0 0 0 0 ⟨#[]⟩):=OR.out
 replace R:Hid (Rd V10.drew (w.heap.size+1) s7 e7):=R.out
 replace HB:Hid (Below w.heap.size w V10.drew):=HB.out.drew
 obtain⟨p0,p1,p2,p3,p4⟩:=(show OwnP V10 P m0 m1 m2 m3 X from OP.out).1
 clear c1 c2 c3 c4 c5 c6 c7 H6 HN HL hv
 go_region_with (first
  | (go_at_call 105;refine(cC _).mono ?_;rintro e V88 ⟨rfl,hb⟩;replace OP:=xh (OP.out.below hb);replace OR:=xh (OR.out.below hb);replace HB:=xh (HB.out.trans (hb.mono HB.out.size));replace R:=xh (R.out.below hb);clear hb;clear p0 p1 p2 p3 p4;obtain⟨p0,p1,p2,p3,p4⟩:=OP.out.1)
  | (go_at_call 120;refine(D _ R.out).mono ?_;rintro e V99 ⟨rfl,ho⟩;replace OR:=xh (OR.out.onl ho (by omega));replace HB:=xh (HB.out.trans (ho.below (by omega) HB.out.size));clear ho;clear p0 p1 p2 p3 p4;obtain⟨⟨u0,u1,u2,u3,u4⟩,uf⟩:=OR.out))
 all_goals
  go_wp2_with fail
  have hs:=(OR.out.set r0 r1 r2 r3 rx).1
  have hbs:=zbE (b:=w.heap.size) HB.out xl r0 r1 r2 r3 rx
  simp only[put5]at hs hbs
  generalize (xC V99 w.heap.size (xA r0 r1 r2 r3 (.string rx)):World)=W5 at*
  obtain⟨s0_,s1_,s2_,s3_,s4_⟩:=hs
  exact bodyPost_ret (v:=.tuple #[.agg (xA r0 r1 r2 r3 (.string rx)),xI t9,xI e9]) (by simp[results,Tryz.results97,go_sem,s0_,s1_,s2_,s3_,s4_]) rfl ⟨rfl,hbs⟩
theorem zns (a:Option Addr)(l c:Nat)(q:Int)(xs:List Int)(w:World)(hv0:Bs w (.slice a l c) xs)(m0 s1 e1 m1 s2 e2 m2 s3 e3 m3 s4 e4 m4 s5 e5 e6 s7 e7 r0 r1 r2 r3 t9 e9:Int)(X rx:ByteArray)(h1:numS xs 1 (q,0)=(m0,s1,e1))(h2:numS xs 1 (s1,e1)=(m1,s2,e2))(h3:numS xs 1 (s2,e2)=(m2,s3,e3))(h4:numS xs 2 (s3,e3)=(m3,s4,e4))(h5:numS xs 2 (s4,e4)=(m4,s5,e5))(ok6:Bool)(hk6:decide (m4≤256)=ok6)(h6:zai e5 ok6=e6)(h7:zd4 xs m4 (s5,e6)=(X,s7,e7))(hk:e6=0→(1≤s5∧s5≤xs.length)∧0≤m4∧m4≤65535)
  (cC:∀W,Calls Tryz.prog 105 #[.agg (xA m0 m1 m2 m3 (.string X))] W fun e w'=>e=.returned (xI 1)∧Below W.heap.size W w')
  (D:∀W,Rd W (w.heap.size+1) s7 e7→Calls Tryz.prog 120 #[xP (w.heap.size+1),.agg (xA m0 m1 m2 m3 (.string X)),.bool false] W fun e w'=>e=.returned (.tuple #[.agg (xA r0 r1 r2 r3 (.string rx)),xI t9,xI e9])∧Onl (w.heap.size+1) W w'):
  Calls Tryz.prog 97 #[.slice a l c,xI q] w fun e w'=>e=.returned (.tuple #[.agg (xA r0 r1 r2 r3 (.string rx)),xI t9,xI e9])∧Below w.heap.size w w':=by
 have hv:=xh hv0
 have c1:=xh (zbd (w.heap.size+1) a l c xs 1 q 0 m0 s1 e1 h1)
 have c2:=xh (zbd (w.heap.size+1) a l c xs 1 s1 e1 m1 s2 e2 h2)
 have c3:=xh (zbd (w.heap.size+1) a l c xs 1 s2 e2 m2 s3 e3 h3)
 have c4:=xh (zbd (w.heap.size+1) a l c xs 2 s3 e3 m3 s4 e4 h4)
 have c5:=xh (zbd (w.heap.size+1) a l c xs 2 s4 e4 m4 s5 e5 h5)
 have c6:=xh (fun W h=>(zay (w.heap.size+1) ok6 s5 e5 W h))
 have c7:=xh (fun g=>zeT (w.heap.size+1) a l c xs m4 s5 e6 s7 e7 X h7 hk g)
 have H6:=xh h6
 clear hv0 h1 h2 h3 h4 h5 h6 h7 hk
 go_enter Tryz.func97,Tryz.ntmps97
 go_wp2_with fail
 refine(za6 _ _).mono ?_
 rintro e _ ⟨rfl,rfl⟩
 have OR:=xh ((za1 w 0 0 0 0 ⟨#[]⟩ 48 w.heap.size rfl).below (xr.alloc xl (.cells #[xI q,xI 0] 89)))
 have R:=xh (zaO (w.alloc (.cells xH 48)) q (w.heap.size+1) (by simp))
 have HB:Hid (Below w.heap.size w ((w.alloc (.cells xH 48)).alloc (.cells #[xI q,xI 0] 89))):=(xr.alloc xl _).alloc (by simp) _
 go_wp2_with fail
 generalize ((w.alloc (.cells xH 48)).alloc (.cells #[xI q,xI 0] 89))=V0 at*
 refine(c1.out _ R.out (zaa hv.out HB.out)).mono ?_
 rintro e V1 ⟨rfl,hR,ho⟩
 replace OR:=xh (OR.out.onl ho (by omega))
 replace HB:=xh (HB.out.trans (ho.below (by omega) HB.out.size))
 replace R:=xh hR
 clear ho hR
 go_wp2_with fail
 refine(c2.out _ R.out (zaa hv.out HB.out)).mono ?_
 rintro e V2 ⟨rfl,hR,ho⟩
 replace OR:=xh (OR.out.onl ho (by omega))
 replace HB:=xh (HB.out.trans (ho.below (by omega) HB.out.size))
 replace R:=xh hR
 clear ho hR
 go_wp2_with fail
 refine(c3.out _ R.out (zaa hv.out HB.out)).mono ?_
 rintro e V3 ⟨rfl,hR,ho⟩
 replace OR:=xh (OR.out.onl ho (by omega))
 replace HB:=xh (HB.out.trans (ho.below (by omega) HB.out.size))
 replace R:=xh hR
 clear ho hR
 go_wp2_with fail
 refine(c4.out _ R.out (zaa hv.out HB.out)).mono ?_
 rintro e V4 ⟨rfl,hR,ho⟩
 replace OR:=xh (OR.out.onl ho (by omega))
 replace HB:=xh (HB.out.trans (ho.below (by omega) HB.out.size))
 replace R:=xh hR
 clear ho hR
 have OP:=xh (za1 V4 m0 m1 m2 m3 ⟨#[]⟩ 48 V4.heap.size rfl)
 have hb:Below V4.heap.size V4 (V4.alloc (.cells (xA m0 m1 m2 m3 xT) 48)):=(Below.refl _ V4).alloc xl _
 have HP:Hid ((w.heap.size+1)<V4.heap.size):=World.block_lt_of_cell? V4 _ R.out.1
 replace OR:=xh (OR.out.below hb)
 replace HB:=xh (HB.out.trans (hb.mono HB.out.size))
 replace R:=xh (R.out.below hb)
 clear hb
 go_wp2_with fail
 obtain⟨P,hP⟩:∃P,V4.heap.size=P:=⟨_,rfl⟩
 rw[hP]at HP OP
 obtain⟨V5,hV5⟩:∃V5,(V4.alloc (.cells (xA m0 m1 m2 m3 xT) 48))=V5:=⟨_,rfl⟩
 rw[hV5]at OP OR HB R
 try rw[hP]
 try rw[hV5]
 clear hP hV5
 refine(c5.out _ R.out (zaa hv.out HB.out)).mono ?_
 rintro e V6 ⟨rfl,hR,ho⟩
 replace OR:=xh (OR.out.onl ho (by omega))
 replace HB:=xh (HB.out.trans (ho.below (by omega) HB.out.size))
 replace OP:=xh (OP.out.onl ho (by have:=HP.out;omega))
 replace R:=xh hR
 clear ho hR
 have HN:Hid ((V6.alloc (.cells #[xI m4] 3)).cell? (V6.heap.size,0)=xJ m4):=by show _=_;simp
 have hb:Below V6.heap.size V6 (V6.alloc (.cells #[xI m4] 3)):=(Below.refl _ V6).alloc xl _
 have HL:Hid (P<V6.heap.size):=OP.out.lt
 replace OR:=xh (OR.out.below hb)
 replace OP:=xh (OP.out.below hb)
 replace HB:=xh (HB.out.trans (hb.mono HB.out.size))
 replace R:=xh (R.out.below hb)
 clear hb
 have hn:=HN.out
 go_wp2_with fail
 clear hn
 obtain⟨L,hL⟩:∃L,V6.heap.size=L:=⟨_,rfl⟩
 rw[hL]at HL HN
 obtain⟨V7,hV7⟩:∃V7,(V6.alloc (.cells #[xI m4] 3))=V7:=⟨_,rfl⟩
 rw[hV7]at OP OR HB R HN
 try rw[hL]
 try rw[hV7]
 clear hL hV7
 replace HL:Hid ((w.heap.size+1)<P∧P<L):=⟨HP.out,HL.out⟩
 clear hk6
 refine(c6.out _ R.out).mono ?_
 rintro e V8 ⟨rfl,hR,ho⟩
 rw[H6.out]at hR
 replace OR:=xh (OR.out.onl ho (by omega))
 replace HB:=xh (HB.out.trans (ho.below (by omega) HB.out.size))
 replace OP:=xh (OP.out.onl ho (by have:=HP.out;omega))
 replace HN:=xh (((ho).cell (p:=xQ L 0) (show L≠(w.heap.size+1)by have:=HL.out;omega) (World.block_lt_of_cell? _ _ HN.out)).trans HN.out)
 replace R:=xh hR
 clear ho hR
 have hn:=HN.out
 go_wp2_with fail
 clear hn
 refine(c7.out L _ R.out HN.out (zaa hv.out HB.out)).mono ?_
 rintro e V9 ⟨rfl,hR,ho⟩
 replace OR:=xh (OR.out.onl ho (by omega))
 replace HB:=xh (HB.out.trans (ho.below (by omega) HB.out.size))
 replace OP:=xh (OP.out.onl ho (by have:=HP.out;omega))
 replace R:=xh hR
 clear ho hR
 obtain⟨⟨p0,p1,p2,p3,p4⟩,pf⟩:=OP.out
 go_wp2_with fail
 clear p0 p1 p2 p3 p4 pf
 have ho:Onl P V9 (V9.setCell (xQ P 4) (.string X)):=(Onl.refl _ _).set 4 _
 replace OP:=xh (OP.out.set4 X)
 replace OR:=xh (OR.out.onl ho (by have:=HP.out;omega))
 replace R:=xh (R.out.onl ho (by have:=HP.out;omega))
 replace HB:=xh (HB.out.trans (ho.below (by have:=HP.out;omega) HB.out.size))
 clear ho
 generalize (V9.setCell (xQ P 4) (.string X))=V10 at*
 replace OP:Hid (OwnP V10.drew P m0 m1 m2 m3 X):=OP.out
 replace OR:Hid (OwnP V10.drew w.heap.size 0 0 0 0 ⟨#[]⟩):=OR.out
 replace R:Hid (Rd V10.drew (w.heap.size+1) s7 e7):=R.out
 replace HB:Hid (Below w.heap.size w V10.drew):=HB.out.drew
 obtain⟨p0,p1,p2,p3,p4⟩:=(show OwnP V10 P m0 m1 m2 m3 X from OP.out).1
 clear c1 c2 c3 c4 c5 c6 c7 H6 HN HL hv
 go_region_with (first
  | (go_at_call 105;refine(cC _).mono ?_;rintro e V88 ⟨rfl,hb⟩;replace OP:=xh (OP.out.below hb);replace OR:=xh (OR.out.below hb);replace HB:=xh (HB.out.trans (hb.mono HB.out.size));replace R:=xh (R.out.below hb);clear hb;clear p0 p1 p2 p3 p4;obtain⟨p0,p1,p2,p3,p4⟩:=OP.out.1)
  | (go_at_call 120;refine(D _ R.out).mono ?_;rintro e V99 ⟨rfl,ho⟩;replace OR:=xh (OR.out.onl ho (by omega));replace HB:=xh (HB.out.trans (ho.below (by omega) HB.out.size));clear ho;clear p0 p1 p2 p3 p4;obtain⟨⟨u0,u1,u2,u3,u4⟩,uf⟩:=OR.out))
 all_goals
  go_wp2_with fail
  have hs:=(OR.out.set r0 r1 r2 r3 rx).1
  have hbs:=zbE (b:=w.heap.size) HB.out xl r0 r1 r2 r3 rx
  simp only[put5]at hs hbs
  generalize (xC V99 w.heap.size (xA r0 r1 r2 r3 (.string rx)):World)=W5 at*
  obtain⟨s0_,s1_,s2_,s3_,s4_⟩:=hs
  exact bodyPost_ret (v:=.tuple #[.agg (xA r0 r1 r2 r3 (.string rx)),xI t9,xI e9]) (by simp[results,Tryz.results97,go_sem,s0_,s1_,s2_,s3_,s4_]) rfl ⟨rfl,hbs⟩
end Go.Proofs.YtjghebcnmoojmaaGreat
