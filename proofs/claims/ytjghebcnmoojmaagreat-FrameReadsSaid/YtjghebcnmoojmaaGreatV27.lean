/- An object that is read next. What the reader answers at its end, of a batch. What the reader answers at its end, of a beacon. -/
import Derived.Test.YtjghebcnmoojmaaGreatV24
set_option maxRecDepth 100000
set_option maxHeartbeats 32000000
namespace Go.Proofs.YtjghebcnmoojmaaGreat
open Go.RowKit MX
section
open Go.Sort
def zby (xs:List Int)(u:Int×Int):OP:=if u.2=0 then zaV xs u.1 else⟨0,0,false,0,0,0,0,0,0,0,0,0,u.1,u.2⟩
theorem zjj (b:Nat)(v:Value)(xs:List Int)(at' e0:Int)(k x:Int)(n:Bool)(t o r d i p q s m:Int)(s3 e3:Int)(w:World)(h:Rd w b at' e0)(hv:Bs w v xs)(hp:zby xs (at',e0)=⟨k,x,n,t,o,r,d,i,p,q,s,m,s3,e3⟩):
  Calls Tryz.prog 113 #[xP b,v,.func (Fn.func 114) #[] #[]] w fun e w'=>e=.returned (.agg (xO k x n t o r d i p q s m))∧Rd w' b s3 e3∧Onl b w w':=by
 have hlt:b<w.heap.size:=World.block_lt_of_cell? w _ h.1
 have HL:=xh hlt
 have hb0:Below w.heap.size w ((w.alloc (.cells xZ 63)).alloc (.cells xZ 63)):=(xr.alloc xl _).alloc (by simp) _
 have OA:=xh ((zah w 0 0 false 0 0 0 0 0 0 0 0 0 63 w.heap.size rfl).below (xr.alloc xl (.cells xZ 63)))
 have OB:=xh (zah (w.alloc (.cells xZ 63)) 0 0 false 0 0 0 0 0 0 0 0 0 63 (w.heap.size+1) (by simp))
 have HB:=xh (Onl.of_below b hb0)
 have R:=xh (h.below hb0)
 have RV:=xh (zaa hv hb0)
 obtain⟨a,l,c,rfl⟩:=zal hv
 have hd1:b≠w.heap.size+1:=by omega
 have hd2:w.heap.size+1≠b:=by omega
 have hd3:b≠w.heap.size:=by omega
 have hd4:w.heap.size≠b:=by omega
 clear h hv hb0 hlt
 by_cases he:e0=0
 ·subst he
  rw[zby,if_pos rfl]at hp
  simp only[]at hp
  have cP:=ziu (.slice a l c) at' xs ((w.alloc (.cells xZ 63)).alloc (.cells xZ 63)) RV.out
  rw[hp]at cP
  unfold OP.v at cP
  clear hp
  go_enter Tryz.func113,Tryz.ntmps113
  have W0:∃V0,(w.alloc (.cells xZ 63)).alloc (.cells xZ 63)=V0:=⟨_,rfl⟩
  obtain⟨V0,hV0⟩:=W0
  rw[hV0]at cP OA OB HB R RV
  obtain⟨z0,z1,zf⟩:=R.out
  obtain⟨⟨q0,q1,q2,q3,q4,q5,q6,q7,q8,q9,q10,q11⟩,qf⟩:=OA.out
  obtain⟨⟨u0,u1,u2,u3,u4,u5,u6,u7,u8,u9,u10,u11⟩,uf⟩:=OB.out
  go_wp2_with fail
  refine cP.mono ?_
  rintro e V1 ⟨rfl,hb⟩
  clear z0 z1 zf q0 q1 q2 q3 q4 q5 q6 q7 q8 q9 q10 q11 qf u0 u1 u2 u3 u4 u5 u6 u7 u8 u9 u10 u11 uf
  replace OA:=xh (OA.out.below hb)
  replace OB:=xh (OB.out.below hb)
  replace R:=xh (R.out.below hb)
  replace HB:=xh (HB.out.trans (Onl.of_below b hb))
  clear hb hV0 RV
  obtain⟨V2,hV2⟩:∃V2,(xC V1 (w.heap.size+1) (xO k x n t o r d i p q s m):World)=V2:=⟨_,rfl⟩
  have OB2:=xh (OB.out.setall k x n t o r d i p q s m)
  have O2:Onl (w.heap.size+1) V1 (xC V1 (w.heap.size+1) (xO k x n t o r d i p q s m)):=zdB V1 (w.heap.size+1) k x n t o r d i p q s m
  have hbel:Below w.heap.size V1 (xC V1 (w.heap.size+1) (xO k x n t o r d i p q s m)):=za5 xr (by omega) k x n t o r d i p q s m
  rw[hV2]at OB2 O2 hbel
  have OA2:=xh (OA.out.onl O2 (by omega))
  have R2:=xh (R.out.onl O2 (by omega))
  have HB2:=xh (HB.out.then hbel xl)
  clear O2 hbel
  obtain⟨⟨u0,u1,u2,u3,u4,u5,u6,u7,u8,u9,u10,u11⟩,uf⟩:=OB.out
  obtain⟨z0,z1,zf⟩:=R2.out
  obtain⟨V3,hV3⟩:∃V3,(xC V2 b #[xI s3,xI e3]:World)=V3:=⟨_,rfl⟩
  have R3:=xh (R2.out.set s3 e3)
  have O3:Onl b V2 (xC V2 b #[xI s3,xI e3]):=((Onl.refl _ _).set 0 _).set 1 _
  rw[hV3]at R3 O3
  have OA3:=xh (OA2.out.onl O3 hd4)
  have OB3:=xh (OB2.out.onl O3 hd2)
  have HB3:=xh (HB2.out.trans O3)
  clear O3
  obtain⟨⟨m0,m1,m2,m3,m4,m5,m6,m7,m8,m9,m10,m11⟩,mf⟩:=OB3.out
  obtain⟨⟨q0,q1,q2,q3,q4,q5,q6,q7,q8,q9,q10,q11⟩,qf⟩:=OA3.out
  go_wp2_with fail
  have hs:=(OA3.out.setall k x n t o r d i p q s m).1
  have hbs:=za5 (B:=w.heap.size) (Below.refl _ V3) (b:=w.heap.size) xl k x n t o r d i p q s m
  have hO4:Onl w.heap.size V3 (xC V3 w.heap.size (xO k x n t o r d i p q s m)):=zdB V3 w.heap.size k x n t o r d i p q s m
  generalize (xC V3 w.heap.size (xO k x n t o r d i p q s m):World)=W5 at*
  obtain⟨s0_,s1_,s2_,s3_,s4_,s5_,s6_,s7_,s8_,s9_,s10_,s11_⟩:=hs
  exact bodyPost_ret (v:=.agg (xO k x n t o r d i p q s m)) (by simp[results,Tryz.results113,go_sem,s0_,s1_,s2_,s3_,s4_,s5_,s6_,s7_,s8_,s9_,s10_,s11_]) rfl ⟨rfl,R3.out.onl hO4 hd3,HB3.out.then hbs xl⟩
 ·have hne:(e0==0)=false:=by simpa using he
  rw[zby,if_neg he]at hp
  simp only[OP.mk.injEq]at hp
  obtain⟨rfl,rfl,rfl,rfl,rfl,rfl,rfl,rfl,rfl,rfl,rfl,rfl,rfl,rfl⟩:=hp
  have HE:=xh he
  clear he
  go_enter Tryz.func113,Tryz.ntmps113
  have W0:∃V0,(w.alloc (.cells xZ 63)).alloc (.cells xZ 63)=V0:=⟨_,rfl⟩
  obtain⟨V0,hV0⟩:=W0
  rw[hV0]at OA OB HB R RV
  obtain⟨z0,z1,zf⟩:=R.out
  obtain⟨⟨q0,q1,q2,q3,q4,q5,q6,q7,q8,q9,q10,q11⟩,qf⟩:=OA.out
  obtain⟨⟨u0,u1,u2,u3,u4,u5,u6,u7,u8,u9,u10,u11⟩,uf⟩:=OB.out
  go_wp2_with fail
  have hs:=(OA.out.setall 0 0 false 0 0 0 0 0 0 0 0 0).1
  have hbs:=za5 (B:=w.heap.size) (Below.refl _ V0) (b:=w.heap.size) xl 0 0 false 0 0 0 0 0 0 0 0 0
  have hO4:Onl w.heap.size V0 (xC V0 w.heap.size xZ):=zdB V0 w.heap.size 0 0 false 0 0 0 0 0 0 0 0 0
  generalize (xC V0 w.heap.size xZ:World)=W5 at*
  obtain⟨s0_,s1_,s2_,s3_,s4_,s5_,s6_,s7_,s8_,s9_,s10_,s11_⟩:=hs
  exact bodyPost_ret (v:=.agg xZ) (by simp[results,Tryz.results113,go_sem,s0_,s1_,s2_,s3_,s4_,s5_,s6_,s7_,s8_,s9_,s10_,s11_]) rfl ⟨rfl,R.out.onl hO4 hd3,HB.out.then hbs xl⟩
end
section
open Go.Sort
def Own2 (w:World)(b:Nat)(M:Int)(v:Value):Prop:=(w.cell? (xQ b 0)=xJ M∧w.cell? (xQ b 1)=some v)∧∀j,w.frozen? ⟨b,j,none⟩=false
theorem za2 (w:World)(M:Int)(v:Value)(T:TypeId)(g:Nat)(hg:g=w.heap.size):Own2 (w.alloc (.cells #[xI M,v] T)) g M v:=by
 subst hg
 exact⟨⟨by simp,by simp⟩,fun j=>by simp⟩
theorem Own2.lt {w:World}{b:Nat}{M:Int}{v:Value}(h:Own2 w b M v):b<w.heap.size:=World.block_lt_of_cell? w _ h.1.1
theorem Own2.below {w w':World}{b:Nat}{M:Int}{v:Value}(h:Own2 w b M v)(hb:Below w.heap.size w w'):Own2 w' b M v:=
 ⟨⟨(hb.cell (p:=xQ b 0) h.lt).trans h.1.1,(hb.cell (p:=xQ b 1) h.lt).trans h.1.2⟩,fun j=>(hb.frozen (p:=⟨b,j,none⟩) h.lt).trans (h.2 j)⟩
theorem Own2.onl {w w':World}{b g:Nat}{M:Int}{v:Value}(h:Own2 w g M v)(ho:Onl b w w')(hg:g≠b):Own2 w' g M v:=
 ⟨⟨(ho.cell (p:=xQ g 0) hg h.lt).trans h.1.1,(ho.cell (p:=xQ g 1) hg h.lt).trans h.1.2⟩,fun j=>(ho.frozen (p:=⟨g,j,none⟩) hg h.lt).trans (h.2 j)⟩
theorem Own2.set {w:World}{b:Nat}{M:Int}{v:Value}(h:Own2 w b M v)(M':Int)(v':Value):Own2 (xC w b #[xI M',v']) b M' v':=by
 obtain⟨⟨h0,h1⟩,hf⟩:=h
 refine⟨⟨?_,?_⟩,fun j=>?_⟩<;>simp[go_sem,hf,h0,h1]
theorem Own2.set1 {w:World}{b:Nat}{M:Int}{v:Value}(h:Own2 w b M v)(v':Value):Own2 (w.setCell (xQ b 1) v') b M v':=by
 obtain⟨⟨h0,h1⟩,hf⟩:=h
 refine⟨⟨?_,?_⟩,fun j=>?_⟩<;>simp[go_sem,hf,h0,h1]
theorem zb0 {B:Nat}{u w:World}{b:Nat}(h:Below B u w)(hB:B≤b)(M:Int)(v:Value):Below B u (xC w b #[xI M,v]):=xC2 h hB
theorem zko (b:Nat)(M:Int)(a:Option Addr)(l c:Nat)(ok:Bool)(at' e0 e1:Int)(w:World)(h:Rd w b at' e0)(hn:zai e0 ok=e1)(he:e1≠0):
  Calls Tryz.prog 115 #[xP b,.agg #[xI M,.slice a l c],.bool ok] w fun e w'=>e=.returned (.tuple #[.agg #[xI 0,xS],xI 0,xI e1])∧Onl b w w':=by
 have hne:(e1==0)=false:=by simpa using he
 have hlt:=World.block_lt_of_cell? w _ h.1
 have hb0:Below w.heap.size w ((w.alloc (.cells #[xI M,.slice a l c] 45)).alloc (.cells #[xI 0,xS] 45)):=(xr.alloc xl _).alloc (by simp) _
 have cN:=zay b ok at' e0 ((w.alloc (.cells #[xI M,.slice a l c] 45)).alloc (.cells #[xI 0,xS] 45)) (h.below hb0)
 rw[hn]at cN
 have OB:=xh (za2 (w.alloc (.cells #[xI M,.slice a l c] 45)) 0 xS 45 (w.heap.size+1) (by simp))
 have HB:=xh (Onl.of_below b hb0)
 have HL:Hid (b<w.heap.size):=hlt
 clear h hn he hlt hb0
 go_enter Tryz.func115,Tryz.ntmps115
 go_wp2_with (go_at_call 57;refine cN.mono ?_;rintro e w1 ⟨rfl,hR,hO⟩;replace OB:=xh (OB.out.onl hO (by have:=HL.out;omega));replace HB:=xh (HB.out.trans hO);have R:=xh hR;clear hO hR;obtain⟨z0,z1,zf⟩:=R.out)
 have OB2:=xh (OB.out.below (xr.alloc xl (.cells #[xI 0,xS] 45)))
 have OZ:=xh (za2 w1 0 xS 45 w1.heap.size rfl)
 have R2:=xh (R.out.alloc (.cells #[xI 0,xS] 45))
 have HB2:=xh (HB.out.alloc (.cells #[xI 0,xS] 45))
 have hne2:Hid (w.heap.size+1<w1.heap.size):=OB.out.lt
 clear z0 z1 zf R OB HB
 generalize w1.alloc (.cells #[xI 0,xS] 45)=V at*
 obtain⟨z0,z1,zf⟩:=R2.out
 obtain⟨⟨q0,q1⟩,qf⟩:=OZ.out
 obtain⟨⟨u0,u1⟩,uf⟩:=OB2.out
 have hd1:b≠w.heap.size+1:=by have:=HL.out;omega
 have hd2:w.heap.size+1≠b:=by have:=HL.out;omega
 go_region
 go_wp2_with fail
 have hs:=(OB2.out.set 0 xS).1
 have hbs:=zb0 (B:=w.heap.size) (Below.refl _ V) (b:=w.heap.size+1) (by omega) 0 xS
 generalize (xC V (w.heap.size+1) #[xI 0,xS]:World)=W5 at*
 obtain⟨s0_,s1_⟩:=hs
 exact bodyPost_ret (v:=.tuple #[.agg #[xI 0,xS],xI 0,xI e1]) (by simp[results,Tryz.results115,go_sem,s0_,s1_]) rfl ⟨rfl,HB2.out.then hbs.drew xl⟩
theorem zlL (b:Nat)(M:Int)(a:Option Addr)(l c:Nat)(at':Int)(w:World)(h:Rd w b at' 0):
  Calls Tryz.prog 115 #[xP b,.agg #[xI M,.slice a l c],.bool true] w fun e w'=>e=.returned (.tuple #[.agg #[xI M,.slice a l c],xI at',xI 0])∧Onl b w w':=by
 have hlt:=World.block_lt_of_cell? w _ h.1
 have hb0:Below w.heap.size w ((w.alloc (.cells #[xI M,.slice a l c] 45)).alloc (.cells #[xI 0,xS] 45)):=(xr.alloc xl _).alloc (by simp) _
 have cN:=zay b true at' 0 ((w.alloc (.cells #[xI M,.slice a l c] 45)).alloc (.cells #[xI 0,xS] 45)) (h.below hb0)
 rw[show zai 0 true=0 from rfl]at cN
 have OA:=xh ((za2 w M (.slice a l c) 45 w.heap.size rfl).below (xr.alloc xl (.cells #[xI 0,xS] 45)))
 have OB:=xh (za2 (w.alloc (.cells #[xI M,.slice a l c] 45)) 0 xS 45 (w.heap.size+1) (by simp))
 have HB:=xh (Onl.of_below b hb0)
 have HL:Hid (b<w.heap.size):=hlt
 clear h hlt hb0
 go_enter Tryz.func115,Tryz.ntmps115
 go_wp2_with (go_at_call 57;refine cN.mono ?_;rintro e w1 ⟨rfl,hR,hO⟩;replace OB:=xh (OB.out.onl hO (by have:=HL.out;omega));replace OA:=xh (OA.out.onl hO (by have:=HL.out;omega));replace HB:=xh (HB.out.trans hO);have R:=xh hR;clear hO hR;obtain⟨z0,z1,zf⟩:=R.out)
 obtain⟨⟨q0,q1⟩,qf⟩:=OA.out
 obtain⟨⟨u0,u1⟩,uf⟩:=OB.out
 have hd1:b≠w.heap.size+1:=by have:=HL.out;omega
 have hd2:w.heap.size+1≠b:=by have:=HL.out;omega
 go_region
 go_wp2_with fail
 have hs:=(OB.out.set M (.slice a l c)).1
 have hbs:=zb0 (B:=w.heap.size) (Below.refl _ w1) (b:=w.heap.size+1) (by omega) M (.slice a l c)
 generalize (xC w1 (w.heap.size+1) #[xI M,.slice a l c]:World)=W5 at*
 obtain⟨s0_,s1_⟩:=hs
 exact bodyPost_ret (v:=.tuple #[.agg #[xI M,.slice a l c],xI at',xI 0]) (by simp[results,Tryz.results115,go_sem,s0_,s1_]) rfl ⟨rfl,HB.out.then hbs.drew xl⟩
def bdV (e0:Int)(ok:Bool)(M:Int)(a:Option Addr)(l c:Nat)(at':Int):Value:=
 if zai e0 ok=0 then .tuple #[.agg #[xI M,.slice a l c],xI at',xI 0]else .tuple #[.agg #[xI 0,xS],xI 0,xI (zai e0 ok)]
theorem zfZ (b:Nat)(M:Int)(a:Option Addr)(l c:Nat)(ok:Bool)(at' e0:Int)(w:World)(h:Rd w b at' e0):
  Calls Tryz.prog 115 #[xP b,.agg #[xI M,.slice a l c],.bool ok] w fun e w'=>e=.returned (bdV e0 ok M a l c at')∧Onl b w w':=by
 unfold bdV
 by_cases he:zai e0 ok=0
 ·rw[if_pos he]
  have h0:e0=0:=by unfold zai at he;split at he<;>omega
  subst h0
  have h1:ok=true:=by cases ok with
   | true=>rfl
   | false=>simp[zai]at he
  subst h1
  exact zlL b M a l c at' w h
 ·rw[if_neg he]
  exact zko b M a l c ok at' e0 _ w h rfl he
end
theorem zkn (b:Nat)(M:Int)(a:Option Addr)(l c:Nat)(ok:Bool)(at' e0 e1:Int)(w:World)(h:Rd w b at' e0)(hn:zai e0 ok=e1)(he:e1≠0):
  Calls Tryz.prog 111 #[xP b,.agg #[xI M,.slice a l c],.bool ok] w fun e w'=>e=.returned (.tuple #[.agg #[xI 0,xS],xI 0,xI e1])∧Onl b w w':=by
 have hne:(e1==0)=false:=by simpa using he
 have hlt:=World.block_lt_of_cell? w _ h.1
 have hb0:Below w.heap.size w ((w.alloc (.cells #[xI M,.slice a l c] 42)).alloc (.cells #[xI 0,xS] 42)):=(xr.alloc xl _).alloc (by simp) _
 have cN:=zay b ok at' e0 ((w.alloc (.cells #[xI M,.slice a l c] 42)).alloc (.cells #[xI 0,xS] 42)) (h.below hb0)
 rw[hn]at cN
 have OB:=xh (za2 (w.alloc (.cells #[xI M,.slice a l c] 42)) 0 xS 42 (w.heap.size+1) (by simp))
 have HB:=xh (Onl.of_below b hb0)
 have HL:Hid (b<w.heap.size):=hlt
 clear h hn he hlt hb0
 go_enter Tryz.func111,Tryz.ntmps111
 go_wp2_with (go_at_call 57;refine cN.mono ?_;rintro e w1 ⟨rfl,hR,hO⟩;replace OB:=xh (OB.out.onl hO (by have:=HL.out;omega));replace HB:=xh (HB.out.trans hO);have R:=xh hR;clear hO hR;obtain⟨z0,z1,zf⟩:=R.out)
 have OB2:=xh (OB.out.below (xr.alloc xl (.cells #[xI 0,xS] 42)))
 have OZ:=xh (za2 w1 0 xS 42 w1.heap.size rfl)
 have R2:=xh (R.out.alloc (.cells #[xI 0,xS] 42))
 have HB2:=xh (HB.out.alloc (.cells #[xI 0,xS] 42))
 have hne2:Hid (w.heap.size+1<w1.heap.size):=OB.out.lt
 clear z0 z1 zf R OB HB
 generalize w1.alloc (.cells #[xI 0,xS] 42)=V at*
 obtain⟨z0,z1,zf⟩:=R2.out
 obtain⟨⟨q0,q1⟩,qf⟩:=OZ.out
 obtain⟨⟨u0,u1⟩,uf⟩:=OB2.out
 have hd1:b≠w.heap.size+1:=by have:=HL.out;omega
 have hd2:w.heap.size+1≠b:=by have:=HL.out;omega
 go_region
 go_wp2_with fail
 have hs:=(OB2.out.set 0 xS).1
 have hbs:=zb0 (B:=w.heap.size) (Below.refl _ V) (b:=w.heap.size+1) (by omega) 0 xS
 generalize (xC V (w.heap.size+1) #[xI 0,xS]:World)=W5 at*
 obtain⟨s0_,s1_⟩:=hs
 exact bodyPost_ret (v:=.tuple #[.agg #[xI 0,xS],xI 0,xI e1]) (by simp[results,Tryz.results111,go_sem,s0_,s1_]) rfl ⟨rfl,HB2.out.then hbs.drew xl⟩
theorem zl9 (b:Nat)(M:Int)(a:Option Addr)(l c:Nat)(at':Int)(w:World)(h:Rd w b at' 0):
  Calls Tryz.prog 111 #[xP b,.agg #[xI M,.slice a l c],.bool true] w fun e w'=>e=.returned (.tuple #[.agg #[xI M,.slice a l c],xI at',xI 0])∧Onl b w w':=by
 have hlt:=World.block_lt_of_cell? w _ h.1
 have hb0:Below w.heap.size w ((w.alloc (.cells #[xI M,.slice a l c] 42)).alloc (.cells #[xI 0,xS] 42)):=(xr.alloc xl _).alloc (by simp) _
 have cN:=zay b true at' 0 ((w.alloc (.cells #[xI M,.slice a l c] 42)).alloc (.cells #[xI 0,xS] 42)) (h.below hb0)
 rw[show zai 0 true=0 from rfl]at cN
 have OA:=xh ((za2 w M (.slice a l c) 42 w.heap.size rfl).below (xr.alloc xl (.cells #[xI 0,xS] 42)))
 have OB:=xh (za2 (w.alloc (.cells #[xI M,.slice a l c] 42)) 0 xS 42 (w.heap.size+1) (by simp))
 have HB:=xh (Onl.of_below b hb0)
 have HL:Hid (b<w.heap.size):=hlt
 clear h hlt hb0
 go_enter Tryz.func111,Tryz.ntmps111
 go_wp2_with (go_at_call 57;refine cN.mono ?_;rintro e w1 ⟨rfl,hR,hO⟩;replace OB:=xh (OB.out.onl hO (by have:=HL.out;omega));replace OA:=xh (OA.out.onl hO (by have:=HL.out;omega));replace HB:=xh (HB.out.trans hO);have R:=xh hR;clear hO hR;obtain⟨z0,z1,zf⟩:=R.out)
 obtain⟨⟨q0,q1⟩,qf⟩:=OA.out
 obtain⟨⟨u0,u1⟩,uf⟩:=OB.out
 have hd1:b≠w.heap.size+1:=by have:=HL.out;omega
 have hd2:w.heap.size+1≠b:=by have:=HL.out;omega
 go_region
 go_wp2_with fail
 have hs:=(OB.out.set M (.slice a l c)).1
 have hbs:=zb0 (B:=w.heap.size) (Below.refl _ w1) (b:=w.heap.size+1) (by omega) M (.slice a l c)
 generalize (xC w1 (w.heap.size+1) #[xI M,.slice a l c]:World)=W5 at*
 obtain⟨s0_,s1_⟩:=hs
 exact bodyPost_ret (v:=.tuple #[.agg #[xI M,.slice a l c],xI at',xI 0]) (by simp[results,Tryz.results111,go_sem,s0_,s1_]) rfl ⟨rfl,HB.out.then hbs.drew xl⟩
theorem zga (b:Nat)(M:Int)(a:Option Addr)(l c:Nat)(ok:Bool)(at' e0:Int)(w:World)(h:Rd w b at' e0):
  Calls Tryz.prog 111 #[xP b,.agg #[xI M,.slice a l c],.bool ok] w fun e w'=>e=.returned (bdV e0 ok M a l c at')∧Onl b w w':=by
 unfold bdV
 by_cases he:zai e0 ok=0
 ·rw[if_pos he]
  have h0:e0=0:=by unfold zai at he;split at he<;>omega
  subst h0
  have h1:ok=true:=by cases ok with
   | true=>rfl
   | false=>simp[zai]at he
  subst h1
  exact zl9 b M a l c at' w h
 ·rw[if_neg he]
  exact zkn b M a l c ok at' e0 _ w h rfl he
end Go.Proofs.YtjghebcnmoojmaaGreat
