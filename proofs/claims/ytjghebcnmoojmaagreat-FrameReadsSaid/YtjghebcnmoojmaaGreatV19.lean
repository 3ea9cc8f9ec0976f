/- A height read out of bytes: Objects in memory while they are parsed; An object read out of bytes: -/
import Derived.Test.YtjghebcnmoojmaaGreatV12
import Derived.Test.YtjghebcnmoojmaaGreatV16
import Derived.Test.YtjghebcnmoojmaaGreatV17
import Derived.Test.YtjghebcnmoojmaaGreatV18
set_option maxRecDepth 100000
set_option maxHeartbeats 32000000
namespace Go.Proofs.YtjghebcnmoojmaaGreat
open Go.RowKit MX
section
open Go.Sort
theorem zhu {n:Bool}{t o r d i k e:Int}(h:HtOk n t o r d i):zd3 e true n t o r d i k=zbg n t o r d (i,k,e):=by
 unfold zd3 zbg zai
 by_cases he:e=0
 ·subst he;simp[h]
 ·simp[he]
theorem zhL {n:Bool}{t o r d i k e:Int}(h:¬HtOk n t o r d i):zd3 e false n t o r d i k=zbg n t o r d (i,k,e):=by
 unfold zd3 zbg zai
 by_cases he:e=0
 ·subst he;simp[h]
 ·simp[he]
theorem zkt {xs:List Int}{k x s e:Int}(h:zab xs (k,0)=(x,s,e))(hx:x≠0):e=0:=by
 unfold zab getS at h
 rw[if_pos rfl]at h
 simp only[]at h
 split at h
 ·simp only[Prod.mk.injEq]at h;omega
 ·split at h
  ·simp only[Prod.mk.injEq]at h;omega
  ·simp only[Prod.mk.injEq]at h;omega
theorem zjI (v:Value)(k:Int)(xs:List Int)(w:World)(hv:Bs w v xs):Calls Tryz.prog 140 #[v,xI k] w fun e w'=>e=.returned (zaG xs k).v∧Below w.heap.size w w':=by
 obtain⟨a,l,c,rfl⟩:=zal hv
 obtain⟨k1,s1,e1,h1⟩:∃x y z,zab xs (k,0)=(x,y,z):=⟨_,_,_,rfl⟩
 by_cases c0:k1=0
 ·subst c0
  obtain⟨i,s6,e6,h2⟩:∃x y z,zab xs (s1,e1)=(x,y,z):=⟨_,_,_,rfl⟩
  have e:zaG xs k=zbg true 0 0 0 0 (i,s6,e6):=by unfold zaG;rw[h1];simp only[if_true];rw[h2]
  rw[e]
  by_cases hq:HtOk true 0 0 0 0 i
  ·rw[←zhu hq]
   have D:=fun W (hR:Rd W (w.heap.size+1) s6 e6)=>zdf (w.heap.size+1) true 0 0 0 0 i true s6 e6 W hR
   generalize zd3 e6 true true 0 0 0 0 i s6=P at D ⊢
   exact pn_0 a l c k xs w hv s1 e1 i s6 e6 h1 h2 P.n P.t P.o P.r P.d P.i P.to P.e (fun W=>by have hk:=zbe true 0 0 0 0 i W;rw[zb9 hq]at hk;exact hk) D
  ·rw[←zhL hq]
   have D:=fun W (hR:Rd W (w.heap.size+1) s6 e6)=>zdf (w.heap.size+1) true 0 0 0 0 i false s6 e6 W hR
   generalize zd3 e6 false true 0 0 0 0 i s6=P at D ⊢
   exact pn_1 a l c k xs w hv s1 e1 i s6 e6 h1 h2 P.n P.t P.o P.r P.d P.i P.to P.e (fun W=>by have hk:=zbe true 0 0 0 0 i W;rw[zc0 hq]at hk;exact hk) D
 ·by_cases c1:k1=1
  ·subst c1
   obtain⟨t,s2,e2,h2⟩:∃x y z,zaB xs (s1,e1)=(x,y,z):=⟨_,_,_,rfl⟩
   obtain⟨o,s3,e3,h3⟩:∃x y z,zab xs (s2,e2)=(x,y,z):=⟨_,_,_,rfl⟩
   obtain⟨r,s4,e4,h4⟩:∃x y z,zab xs (s3,e3)=(x,y,z):=⟨_,_,_,rfl⟩
   obtain⟨d,s5,e5,h5⟩:∃x y z,zaB xs (s4,e4)=(x,y,z):=⟨_,_,_,rfl⟩
   obtain⟨i,s6,e6,h6⟩:∃x y z,zab xs (s5,e5)=(x,y,z):=⟨_,_,_,rfl⟩
   have e:zaG xs k=zbg false t o r d (i,s6,e6):=by unfold zaG;simp only[h1,h2,h3,h4,h5,h6,if_neg c0,if_true]
   rw[e]
   by_cases hq:HtOk false t o r d i
   ·rw[←zhu hq]
    have D:=fun W (hR:Rd W (w.heap.size+1) s6 e6)=>zdf (w.heap.size+1) false t o r d i true s6 e6 W hR
    generalize zd3 e6 true false t o r d i s6=P at D ⊢
    exact pr_0 a l c k xs w hv s1 e1 t s2 e2 o s3 e3 r s4 e4 d s5 e5 i s6 e6 h1 h2 h3 h4 h5 h6 P.n P.t P.o P.r P.d P.i P.to P.e (fun W=>by have hk:=zbe false t o r d i W;rw[zb9 hq]at hk;exact hk) D
   ·rw[←zhL hq]
    have D:=fun W (hR:Rd W (w.heap.size+1) s6 e6)=>zdf (w.heap.size+1) false t o r d i false s6 e6 W hR
    generalize zd3 e6 false false t o r d i s6=P at D ⊢
    exact pr_1 a l c k xs w hv s1 e1 t s2 e2 o s3 e3 r s4 e4 d s5 e5 i s6 e6 h1 h2 h3 h4 h5 h6 P.n P.t P.o P.r P.d P.i P.to P.e (fun W=>by have hk:=zbe false t o r d i W;rw[zc0 hq]at hk;exact hk) D
  ·have e:zaG xs k=.no 4:=by unfold zaG;simp only[h1,if_neg c0,if_neg c1]
   have z:=zkt h1 c0
   subst z
   have h2:zab xs (s1,zai 0 false)=(0,s1,4):=rfl
   have d4:∀ok,zd3 4 ok false 0 0 0 0 0 s1=.no 4:=fun ok=>by cases ok<;>rfl
   rw[e]
   by_cases hq:HtOk false 0 0 0 0 0
   ·rw[←d4 true]
    have D:=fun W (hR:Rd W (w.heap.size+1) s1 4)=>zdf (w.heap.size+1) false 0 0 0 0 0 true s1 4 W hR
    generalize zd3 4 true false 0 0 0 0 0 s1=P at D ⊢
    exact po_0 a l c k xs w hv k1 s1 0 0 s1 4 h1 c0 c1 h2 P.n P.t P.o P.r P.d P.i P.to P.e (fun W=>by have hk:=zbe false 0 0 0 0 0 W;rw[zb9 hq]at hk;exact hk) D
   ·exact absurd (by decide) hq
end
section
open Go.Sort
def Own12 (w:World)(b:Nat)(k x:Int)(n:Bool)(t o r d i p q s m:Int):Prop:=Cells12 w b k x n t o r d i p q s m∧∀j,w.frozen? ⟨b,j,none⟩=false
theorem zah (w:World)(k x:Int)(n:Bool)(t o r d i p q s m:Int)(T:TypeId)(g:Nat)(hg:g=w.heap.size):Own12 (w.alloc (.cells (xO k x n t o r d i p q s m) T)) g k x n t o r d i p q s m:=by
 subst hg
 exact⟨zak w k x n t o r d i p q s m T,fun j=>by simp⟩
theorem Own12.below {w w':World}{b:Nat}{k x:Int}{n:Bool}{t o r d i p q s m:Int}(h:Own12 w b k x n t o r d i p q s m)(hb:Below w.heap.size w w'):Own12 w' b k x n t o r d i p q s m:=
 ⟨h.1.below hb,fun j=>(hb.frozen (p:=⟨b,j,none⟩) (show b<w.heap.size from World.block_lt_of_cell? w _ h.1.1)).trans (h.2 j)⟩
theorem Own12.onl {w w':World}{b g:Nat}{k x:Int}{n:Bool}{t o r d i p q s m:Int}(h:Own12 w g k x n t o r d i p q s m)(ho:Onl b w w')(hg:g≠b):Own12 w' g k x n t o r d i p q s m:=by
 obtain⟨⟨h0,h1,h2,h3,h4,h5,h6,h7,h8,h9,h10,h11⟩,hf⟩:=h
 have hl:=World.block_lt_of_cell? w _ h0
 have f:∀{j:Nat} {v:Value},w.cell? ⟨g,j,none⟩=some v→w'.cell? ⟨g,j,none⟩=some v:=fun{j v} h=>(ho.cell (p:=⟨g,j,none⟩) hg hl).trans h
 exact⟨⟨f h0,f h1,f h2,f h3,f h4,f h5,f h6,f h7,f h8,f h9,f h10,f h11⟩,fun j=>(ho.frozen (p:=⟨g,j,none⟩) hg hl).trans (hf j)⟩
theorem Own12.lt {w:World}{b:Nat}{k x:Int}{n:Bool}{t o r d i p q s m:Int}(h:Own12 w b k x n t o r d i p q s m):b<w.heap.size:=World.block_lt_of_cell? w _ h.1.1
theorem Cells4.onl {w w':World}{b g:Nat}{a0 a1 a2 a3:Bool}(h:Cells4 w g a0 a1 a2 a3)(ho:Onl b w w')(hg:g≠b):Cells4 w' g a0 a1 a2 a3:=by
 obtain⟨h0,h1,h2,h3⟩:=h
 have hl:=World.block_lt_of_cell? w _ h0
 have f:∀{j:Nat} {v:Value},w.cell? ⟨g,j,none⟩=some v→w'.cell? ⟨g,j,none⟩=some v:=fun{j v} h=>(ho.cell (p:=⟨g,j,none⟩) hg hl).trans h
 exact⟨f h0,f h1,f h2,f h3⟩
theorem za4 (w:World)(a0 a1 a2 a3:Bool)(T:TypeId):Cells4 (w.alloc (.cells #[.bool a0,.bool a1,.bool a2,.bool a3] T)) w.heap.size a0 a1 a2 a3:=by
 refine⟨?_,?_,?_,?_⟩<;>simp
theorem Cells4.lt {w:World}{b:Nat}{a0 a1 a2 a3:Bool}(h:Cells4 w b a0 a1 a2 a3):b<w.heap.size:=World.block_lt_of_cell? w _ h.1
theorem Own12.setx {w:World}{b:Nat}{k x:Int}{n:Bool}{t o r d i p q s m:Int}(h:Own12 w b k x n t o r d i p q s m)(x':Int):Own12 (w.setCell (xQ b 1) (xI x')) b k x' n t o r d i p q s m:=by
 obtain⟨⟨h0,h1,h2,h3,h4,h5,h6,h7,h8,h9,h10,h11⟩,hf⟩:=h
 refine⟨⟨?_,?_,?_,?_,?_,?_,?_,?_,?_,?_,?_,?_⟩,fun j=>?_⟩<;>simp[go_sem,hf,h0,h1,h2,h3,h4,h5,h6,h7,h8,h9,h10,h11]
theorem zbO (w:World)(b:Nat)(x':Int):Onl b w (w.setCell (xQ b 1) (xI x')):=((Onl.refl _ _).set 1 _)
theorem Own12.setm {w:World}{b:Nat}{k x:Int}{n:Bool}{t o r d i p q s m:Int}(h:Own12 w b k x n t o r d i p q s m)(m':Int):Own12 (w.setCell (xQ b 11) (xI m')) b k x n t o r d i p q s m':=by
 obtain⟨⟨h0,h1,h2,h3,h4,h5,h6,h7,h8,h9,h10,h11⟩,hf⟩:=h
 refine⟨⟨?_,?_,?_,?_,?_,?_,?_,?_,?_,?_,?_,?_⟩,fun j=>?_⟩<;>simp[go_sem,hf,h0,h1,h2,h3,h4,h5,h6,h7,h8,h9,h10,h11]
theorem zhE (w:World)(b:Nat)(m':Int):Onl b w (w.setCell (xQ b 11) (xI m')):=((Onl.refl _ _).set 11 _)
theorem Own12.setl {w:World}{b:Nat}{k x:Int}{n:Bool}{t o r d i p q s m:Int}(h:Own12 w b k x n t o r d i p q s m)(p':Int)(q':Int)(s':Int):Own12 (((w.setCell (xQ b 8) (xI p')).setCell (xQ b 9) (xI q')).setCell (xQ b 10) (xI s')) b k x n t o r d i p' q' s' m:=by
 obtain⟨⟨h0,h1,h2,h3,h4,h5,h6,h7,h8,h9,h10,h11⟩,hf⟩:=h
 refine⟨⟨?_,?_,?_,?_,?_,?_,?_,?_,?_,?_,?_,?_⟩,fun j=>?_⟩<;>simp[go_sem,hf,h0,h1,h2,h3,h4,h5,h6,h7,h8,h9,h10,h11]
theorem zhX (w:World)(b:Nat)(p':Int)(q':Int)(s':Int):Onl b w (((w.setCell (xQ b 8) (xI p')).setCell (xQ b 9) (xI q')).setCell (xQ b 10) (xI s')):=((((Onl.refl _ _).set 8 _).set 9 _).set 10 _)
theorem Own12.seth {w:World}{b:Nat}{k x:Int}{n:Bool}{t o r d i p q s m:Int}(h:Own12 w b k x n t o r d i p q s m)(n':Bool)(t':Int)(o':Int)(r':Int)(d':Int)(i':Int):Own12 ((((((w.setCell (xQ b 2) (.bool n')).setCell (xQ b 3) (xI t')).setCell (xQ b 4) (xI o')).setCell (xQ b 5) (xI r')).setCell (xQ b 6) (xI d')).setCell (xQ b 7) (xI i')) b k x n' t' o' r' d' i' p q s m:=by
 obtain⟨⟨h0,h1,h2,h3,h4,h5,h6,h7,h8,h9,h10,h11⟩,hf⟩:=h
 refine⟨⟨?_,?_,?_,?_,?_,?_,?_,?_,?_,?_,?_,?_⟩,fun j=>?_⟩<;>simp[go_sem,hf,h0,h1,h2,h3,h4,h5,h6,h7,h8,h9,h10,h11]
theorem zee (w:World)(b:Nat)(n':Bool)(t':Int)(o':Int)(r':Int)(d':Int)(i':Int):Onl b w ((((((w.setCell (xQ b 2) (.bool n')).setCell (xQ b 3) (xI t')).setCell (xQ b 4) (xI o')).setCell (xQ b 5) (xI r')).setCell (xQ b 6) (xI d')).setCell (xQ b 7) (xI i')):=(((((((Onl.refl _ _).set 2 _).set 3 _).set 4 _).set 5 _).set 6 _).set 7 _)
theorem Own12.setall {w:World}{b:Nat}{k x:Int}{n:Bool}{t o r d i p q s m:Int}(h:Own12 w b k x n t o r d i p q s m)(k':Int)(x':Int)(n':Bool)(t':Int)(o':Int)(r':Int)(d':Int)(i':Int)(p':Int)(q':Int)(s':Int)(m':Int):Own12 (xC w b (xO k' x' n' t' o' r' d' i' p' q' s' m')) b k' x' n' t' o' r' d' i' p' q' s' m':=by
 obtain⟨⟨h0,h1,h2,h3,h4,h5,h6,h7,h8,h9,h10,h11⟩,hf⟩:=h
 refine⟨⟨?_,?_,?_,?_,?_,?_,?_,?_,?_,?_,?_,?_⟩,fun j=>?_⟩<;>simp[go_sem,hf,h0,h1,h2,h3,h4,h5,h6,h7,h8,h9,h10,h11]
theorem zdB (w:World)(b:Nat)(k':Int)(x':Int)(n':Bool)(t':Int)(o':Int)(r':Int)(d':Int)(i':Int)(p':Int)(q':Int)(s':Int)(m':Int):Onl b w (xC w b (xO k' x' n' t' o' r' d' i' p' q' s' m')):=(((((((((((((Onl.refl _ _).set 0 _).set 1 _).set 2 _).set 3 _).set 4 _).set 5 _).set 6 _).set 7 _).set 8 _).set 9 _).set 10 _).set 11 _)
theorem za5 {B:Nat}{u w:World}{b:Nat}(h:Below B u w)(hB:B≤b)(k x:Int)(n:Bool)(t o r d i p q s m:Int):Below B u (xC w b (xO k x n t o r d i p q s m)):=(xC12 h hB)
theorem zky (b:Nat)(k x:Int)(n:Bool)(t o r d i p q s m:Int)(ok:Bool)(at' e0 e1:Int)(w:World)(h:Rd w b at' e0)(hn:zai e0 ok=e1)(he:e1≠0):
  Calls Tryz.prog 141 #[xP b,.agg (xO k x n t o r d i p q s m),.bool ok] w fun e w'=>e=.returned (.tuple #[.agg xZ,xI 0,xI e1])∧Onl b w w':=by
 have hne:(e1==0)=false:=by simpa using he
 have hlt:=World.block_lt_of_cell? w _ h.1
 have hb0:Below w.heap.size w ((w.alloc (.cells (xO k x n t o r d i p q s m) 63)).alloc (.cells xZ 63)):=(xr.alloc xl _).alloc (by simp) _
 have cN:=zay b ok at' e0 ((w.alloc (.cells (xO k x n t o r d i p q s m) 63)).alloc (.cells xZ 63)) (h.below hb0)
 rw[hn]at cN
 have OB:=xh (zah (w.alloc (.cells (xO k x n t o r d i p q s m) 63)) 0 0 false 0 0 0 0 0 0 0 0 0 63 (w.heap.size+1) (by simp))
 have HB:=xh (Onl.of_below b hb0)
 have HL:Hid (b<w.heap.size):=hlt
 clear h hn he hlt hb0
 go_enter Tryz.func141,Tryz.ntmps141
 go_wp2_with (go_at_call 57;refine cN.mono ?_;rintro e w1 ⟨rfl,hR,hO⟩;replace OB:=xh (OB.out.onl hO (by have:=HL.out;omega));replace HB:=xh (HB.out.trans hO);have R:=xh hR;clear hO hR;obtain⟨z0,z1,zf⟩:=R.out)
 have OB2:=xh (OB.out.below (xr.alloc xl (.cells xZ 63)))
 have OZ:=xh (zah w1 0 0 false 0 0 0 0 0 0 0 0 0 63 w1.heap.size rfl)
 have R2:=xh (R.out.alloc (.cells xZ 63))
 have HB2:=xh (HB.out.alloc (.cells xZ 63))
 have hne2:Hid (w.heap.size+1<w1.heap.size):=OB.out.lt
 clear z0 z1 zf R OB HB
 generalize w1.alloc (.cells xZ 63)=V at*
 obtain⟨z0,z1,zf⟩:=R2.out
 obtain⟨⟨q0,q1,q2,q3,q4,q5,q6,q7,q8,q9,q10,q11⟩,qf⟩:=OZ.out
 obtain⟨⟨u0,u1,u2,u3,u4,u5,u6,u7,u8,u9,u10,u11⟩,uf⟩:=OB2.out
 have hd1:b≠w.heap.size+1:=by have:=HL.out;omega
 have hd2:w.heap.size+1≠b:=by have:=HL.out;omega
 go_region
 go_wp2_with fail
 have hs:=(OB2.out.setall 0 0 false 0 0 0 0 0 0 0 0 0).1
 have hbs:=za5 (B:=w.heap.size) (Below.refl _ V) (b:=w.heap.size+1) (by omega) 0 0 false 0 0 0 0 0 0 0 0 0
 generalize (xC V (w.heap.size+1) xZ:World)=W5 at*
 obtain⟨s0_,s1_,s2_,s3_,s4_,s5_,s6_,s7_,s8_,s9_,s10_,s11_⟩:=hs
 exact bodyPost_ret (v:=.tuple #[.agg xZ,xI 0,xI e1]) (by simp[results,Tryz.results141,go_sem,s0_,s1_,s2_,s3_,s4_,s5_,s6_,s7_,s8_,s9_,s10_,s11_]) rfl ⟨rfl,HB2.out.then hbs.drew xl⟩
theorem zlu (b:Nat)(k x:Int)(n:Bool)(t o r d i p q s m:Int)(at':Int)(w:World)(h:Rd w b at' 0):
  Calls Tryz.prog 141 #[xP b,.agg (xO k x n t o r d i p q s m),.bool true] w fun e w'=>e=.returned (.tuple #[.agg (xO k x n t o r d i p q s m),xI at',xI 0])∧Onl b w w':=by
 have hlt:=World.block_lt_of_cell? w _ h.1
 have hb0:Below w.heap.size w ((w.alloc (.cells (xO k x n t o r d i p q s m) 63)).alloc (.cells xZ 63)):=(xr.alloc xl _).alloc (by simp) _
 have cN:=zay b true at' 0 ((w.alloc (.cells (xO k x n t o r d i p q s m) 63)).alloc (.cells xZ 63)) (h.below hb0)
 rw[show zai 0 true=0 from rfl]at cN
 have OA:=xh ((zah w k x n t o r d i p q s m 63 w.heap.size rfl).below (xr.alloc xl (.cells xZ 63)))
 have OB:=xh (zah (w.alloc (.cells (xO k x n t o r d i p q s m) 63)) 0 0 false 0 0 0 0 0 0 0 0 0 63 (w.heap.size+1) (by simp))
 have HB:=xh (Onl.of_below b hb0)
 have HL:Hid (b<w.heap.size):=hlt
 clear h hlt hb0
 go_enter Tryz.func141,Tryz.ntmps141
 go_wp2_with (go_at_call 57;refine cN.mono ?_;rintro e w1 ⟨rfl,hR,hO⟩;replace OB:=xh (OB.out.onl hO (by have:=HL.out;omega));replace OA:=xh (OA.out.onl hO (by have:=HL.out;omega));replace HB:=xh (HB.out.trans hO);have R:=xh hR;clear hO hR;obtain⟨z0,z1,zf⟩:=R.out)
 obtain⟨⟨q0,q1,q2,q3,q4,q5,q6,q7,q8,q9,q10,q11⟩,qf⟩:=OA.out
 obtain⟨⟨u0,u1,u2,u3,u4,u5,u6,u7,u8,u9,u10,u11⟩,uf⟩:=OB.out
 have hd1:b≠w.heap.size+1:=by have:=HL.out;omega
 have hd2:w.heap.size+1≠b:=by have:=HL.out;omega
 go_region
 go_wp2_with fail
 have hs:=(OB.out.setall k x n t o r d i p q s m).1
 have hbs:=za5 (B:=w.heap.size) (Below.refl _ w1) (b:=w.heap.size+1) (by omega) k x n t o r d i p q s m
 generalize (xC w1 (w.heap.size+1) (xO k x n t o r d i p q s m):World)=W5 at*
 obtain⟨s0_,s1_,s2_,s3_,s4_,s5_,s6_,s7_,s8_,s9_,s10_,s11_⟩:=hs
 exact bodyPost_ret (v:=.tuple #[.agg (xO k x n t o r d i p q s m),xI at',xI 0]) (by simp[results,Tryz.results141,go_sem,s0_,s1_,s2_,s3_,s4_,s5_,s6_,s7_,s8_,s9_,s10_,s11_]) rfl ⟨rfl,HB.out.then hbs.drew xl⟩
structure OP where
 k:Int
 x:Int
 n:Bool
 t:Int
 o:Int
 r:Int
 d:Int
 i:Int
 p:Int
 q:Int
 s:Int
 m:Int
 to:Int
 e:Int
def OP.v (b:OP):Value:=.tuple #[.agg (xO b.k b.x b.n b.t b.o b.r b.d b.i b.p b.q b.s b.m),xI b.to,xI b.e]
def OP.no (e:Int):OP:=⟨0,0,false,0,0,0,0,0,0,0,0,0,0,e⟩
def zbF (e0:Int)(ok:Bool)(k x:Int)(n:Bool)(t o r d i p q s m:Int)(at':Int):OP:=if zai e0 ok=0 then⟨k,x,n,t,o,r,d,i,p,q,s,m,at',0⟩else .no (zai e0 ok)
theorem zbA (b:Nat)(k x:Int)(n:Bool)(t o r d i p q s m:Int)(ok:Bool)(at' e0:Int)(w:World)(h:Rd w b at' e0):
  Calls Tryz.prog 141 #[xP b,.agg (xO k x n t o r d i p q s m),.bool ok] w fun e w'=>e=.returned (zbF e0 ok k x n t o r d i p q s m at').v∧Onl b w w':=by
 unfold zbF
 by_cases he:zai e0 ok=0
 ·rw[if_pos he]
  have h0:e0=0:=by unfold zai at he;split at he<;>omega
  subst h0
  have h1:ok=true:=by cases ok with
   | true=>rfl
   | false=>simp[zai]at he
  subst h1
  exact zlu b k x n t o r d i p q s m at' w h
 ·rw[if_neg he]
  exact zky b k x n t o r d i p q s m ok at' e0 _ w h rfl he
def zb4 (xs:List Int)(u:Int×Int):PR:=if u.2=0 then zaG xs u.1 else⟨false,0,0,0,0,0,u.1,u.2⟩
theorem zdo (b:Nat)(v:Value)(xs:List Int)(at' e0:Int)(n:Bool)(t o r d i s3 e3:Int)(w:World)(h:Rd w b at' e0)(hv:Bs w v xs)(hp:zb4 xs (at',e0)=⟨n,t,o,r,d,i,s3,e3⟩):
  Calls Tryz.prog 139 #[xP b,v,.func (Fn.func 140) #[] #[]] w fun e w'=>e=.returned (.agg (xB n t o r d i))∧Rd w' b s3 e3∧Onl b w w':=by
 have hlt:b<w.heap.size:=World.block_lt_of_cell? w _ h.1
 have HL:=xh hlt
 have hb0:Below w.heap.size w ((w.alloc (.cells xE 59)).alloc (.cells xE 59)):=(xr.alloc xl _).alloc (by simp) _
 have OA:=xh ((zar w false 0 0 0 0 0 59 w.heap.size rfl).below (xr.alloc xl (.cells xE 59)))
 have OB:=xh (zar (w.alloc (.cells xE 59)) false 0 0 0 0 0 59 (w.heap.size+1) (by simp))
 have HB:=xh (Onl.of_below b hb0)
 have R:=xh (h.below hb0)
 have RV:=xh (zaa hv hb0)
 obtain⟨a,l,c,rfl⟩:=zal hv
 have hd1:b≠w.heap.size+1:=by omega
 have hd2:w.heap.size+1≠b:=by omega
 have hd3:b≠w.heap.size:=by omega
 have hd4:w.heap.size≠b:=by omega
 clear h hv hb0 hlt
 by_cases he:e0=0
 ·subst he
  rw[zb4,if_pos rfl]at hp
  simp only[]at hp
  have cP:=zjI (.slice a l c) at' xs ((w.alloc (.cells xE 59)).alloc (.cells xE 59)) RV.out
  rw[hp]at cP
  unfold PR.v at cP
  clear hp
  go_enter Tryz.func139,Tryz.ntmps139
  have W0:∃V0,(w.alloc (.cells xE 59)).alloc (.cells xE 59)=V0:=⟨_,rfl⟩
  obtain⟨V0,hV0⟩:=W0
  rw[hV0]at cP OA OB HB R RV
  obtain⟨z0,z1,zf⟩:=R.out
  obtain⟨⟨q0,q1,q2,q3,q4,q5⟩,qf⟩:=OA.out
  obtain⟨⟨u0,u1,u2,u3,u4,u5⟩,uf⟩:=OB.out
  go_wp2_with fail
  refine cP.mono ?_
  rintro e V1 ⟨rfl,hb⟩
  clear z0 z1 zf q0 q1 q2 q3 q4 q5 qf u0 u1 u2 u3 u4 u5 uf
  replace OA:=xh (OA.out.below hb)
  replace OB:=xh (OB.out.below hb)
  replace R:=xh (R.out.below hb)
  replace HB:=xh (HB.out.trans (Onl.of_below b hb))
  clear hb hV0 RV
  obtain⟨V2,hV2⟩:∃V2,(xC V1 (w.heap.size+1) (xB n t o r d i):World)=V2:=⟨_,rfl⟩
  have OB2:=xh (OB.out.set n t o r d i)
  have O2:Onl (w.heap.size+1) V1 (xC V1 (w.heap.size+1) (xB n t o r d i)):=(((((((Onl.refl _ _).set 0 _).set 1 _).set 2 _).set 3 _).set 4 _).set 5 _)
  have hbel:Below w.heap.size V1 (xC V1 (w.heap.size+1) (xB n t o r d i)):=zbr xr (by omega) n t o r d i
  rw[hV2]at OB2 O2 hbel
  have OA2:=xh (OA.out.onl O2 (by omega))
  have R2:=xh (R.out.onl O2 (by omega))
  have HB2:=xh (HB.out.then hbel xl)
  clear O2 hbel
  obtain⟨⟨u0,u1,u2,u3,u4,u5⟩,uf⟩:=OB.out
  obtain⟨z0,z1,zf⟩:=R2.out
  obtain⟨V3,hV3⟩:∃V3,(xC V2 b #[xI s3,xI e3]:World)=V3:=⟨_,rfl⟩
  have R3:=xh (R2.out.set s3 e3)
  have O3:Onl b V2 (xC V2 b #[xI s3,xI e3]):=((Onl.refl _ _).set 0 _).set 1 _
  rw[hV3]at R3 O3
  have OA3:=xh (OA2.out.onl O3 hd4)
  have OB3:=xh (OB2.out.onl O3 hd2)
  have HB3:=xh (HB2.out.trans O3)
  clear O3
  obtain⟨⟨m0,m1,m2,m3,m4,m5⟩,mf⟩:=OB3.out
  obtain⟨⟨q0,q1,q2,q3,q4,q5⟩,qf⟩:=OA3.out
  go_wp2_with fail
  have hs:=set6 OA3.out.1 n t o r d i
  have hbs:=zbr (B:=w.heap.size) (Below.refl _ V3) (b:=w.heap.size) xl n t o r d i
  have hO4:Onl w.heap.size V3 (xC V3 w.heap.size (xB n t o r d i)):=(((((((Onl.refl _ _).set 0 _).set 1 _).set 2 _).set 3 _).set 4 _).set 5 _)
  generalize (xC V3 w.heap.size (xB n t o r d i):World)=W5 at*
  obtain⟨s0_,s1_,s2_,s3_,s4_,s5_⟩:=hs
  exact bodyPost_ret (v:=.agg (xB n t o r d i)) (by simp[results,Tryz.results139,go_sem,s0_,s1_,s2_,s3_,s4_,s5_]) rfl ⟨rfl,R3.out.onl hO4 hd3,HB3.out.then hbs xl⟩
 ·have hne:(e0==0)=false:=by simpa using he
  rw[zb4,if_neg he]at hp
  simp only[PR.mk.injEq]at hp
  obtain⟨rfl,rfl,rfl,rfl,rfl,rfl,rfl,rfl⟩:=hp
  have HE:=xh he
  clear he
  go_enter Tryz.func139,Tryz.ntmps139
  have W0:∃V0,(w.alloc (.cells xE 59)).alloc (.cells xE 59)=V0:=⟨_,rfl⟩
  obtain⟨V0,hV0⟩:=W0
  rw[hV0]at OA OB HB R RV
  obtain⟨z0,z1,zf⟩:=R.out
  obtain⟨⟨q0,q1,q2,q3,q4,q5⟩,qf⟩:=OA.out
  obtain⟨⟨u0,u1,u2,u3,u4,u5⟩,uf⟩:=OB.out
  go_wp2_with fail
  have hs:=set6 OA.out.1 false 0 0 0 0 0
  have hbs:=zbr (B:=w.heap.size) (Below.refl _ V0) (b:=w.heap.size) xl false 0 0 0 0 0
  have hO4:Onl w.heap.size V0 (xC V0 w.heap.size xE):=(((((((Onl.refl _ _).set 0 _).set 1 _).set 2 _).set 3 _).set 4 _).set 5 _)
  generalize (xC V0 w.heap.size xE:World)=W5 at*
  obtain⟨s0_,s1_,s2_,s3_,s4_,s5_⟩:=hs
  exact bodyPost_ret (v:=.agg xE) (by simp[results,Tryz.results139,go_sem,s0_,s1_,s2_,s3_,s4_,s5_]) rfl ⟨rfl,R.out.onl hO4 hd3,HB.out.then hbs xl⟩
end
section
open Go.Sort
theorem zpX (a:Option Addr)(l c:Nat)(at':Int)(xs:List Int)(w:World)(hv0:Bs w (.slice a l c) xs)(k s1 e1 x s2 e2:Int)(hc1:zab xs (at',0)=(k,s1,e1))(hc2:zab xs (s1,(zai e1 false))=(x,s2,e2))(h1:k≠1)(h2:k≠2)(h3:k≠3)(h4:k≠4)(k9 x9 t9 o9 r9 d9 i9 p9 q9 s9 m9 to9 e9:Int)(n9:Bool)
  (cC:∀W,Calls Tryz.prog 130 #[.agg (xO k x false 0 0 0 0 0 0 0 0 0)] W fun e w'=>e=.returned (xI 1)∧Below W.heap.size W w')
  (D:∀W,Rd W (w.heap.size+1) s2 e2→Calls Tryz.prog 141 #[xP (w.heap.size+1),.agg (xO k x false 0 0 0 0 0 0 0 0 0),.bool false] W fun e w'=>e=.returned (.tuple #[.agg (xO k9 x9 n9 t9 o9 r9 d9 i9 p9 q9 s9 m9),xI to9,xI e9])∧Onl (w.heap.size+1) W w'):
  Calls Tryz.prog 114 #[.slice a l c,xI at'] w fun e w'=>e=.returned (.tuple #[.agg (xO k9 x9 n9 t9 o9 r9 d9 i9 p9 q9 s9 m9),xI to9,xI e9])∧Below w.heap.size w w':=by
 have hv:=xh hv0
 clear hv0
 have c1:∀V,Rd V (w.heap.size+1) at' 0→Bs V (.slice a l c) xs→Calls Tryz.prog 31 #[xP (w.heap.size+1),.slice a l c,xI 1] V fun e w'=>e=.returned (xI k)∧Rd w' (w.heap.size+1) s1 e1∧Onl (w.heap.size+1) V w':=fun V h hv=>by
  have h:Calls Tryz.prog 31 #[xP (w.heap.size+1),.slice a l c,xI 1] V fun e w'=>e=.returned (xI (zab xs (at',0)).1)∧Rd w' (w.heap.size+1) (zab xs (at',0)).2.1 (zab xs (at',0)).2.2∧Onl (w.heap.size+1) V w':=zad (w.heap.size+1) (.slice a l c) xs 1 at' 0 V h hv
  rw[hc1]at h
  exact h
 have c2:∀V,Rd V (w.heap.size+1) s1 (zai e1 false)→Bs V (.slice a l c) xs→Calls Tryz.prog 31 #[xP (w.heap.size+1),.slice a l c,xI 1] V fun e w'=>e=.returned (xI x)∧Rd w' (w.heap.size+1) s2 e2∧Onl (w.heap.size+1) V w':=fun V h hv=>by
  have h:Calls Tryz.prog 31 #[xP (w.heap.size+1),.slice a l c,xI 1] V fun e w'=>e=.returned (xI (zab xs (s1,(zai e1 false))).1)∧Rd w' (w.heap.size+1) (zab xs (s1,(zai e1 false))).2.1 (zab xs (s1,(zai e1 false))).2.2∧Onl (w.heap.size+1) V w':=zad (w.heap.size+1) (.slice a l c) xs 1 s1 (zai e1 false) V h hv
  rw[hc2]at h
  exact h
 have hp:zbK k=.agg #[.bool false,.bool false,.bool false,.bool false]:=by simp[zbK,kn,lvB,hgB,nuB,h1,h2,h3,h4]
 clear hc1 hc2 h1 h2 h3 h4
 go_enter Tryz.func114,Tryz.ntmps114
 go_wp2_with fail
 refine(za6 _ _).mono ?_
 rintro e _ ⟨rfl,rfl⟩
 go_wp2_with fail
 have OR:=xh ((zah w 0 0 false 0 0 0 0 0 0 0 0 0 63 w.heap.size rfl).below (xr.alloc xl (.cells #[xI at',xI 0] 89)))
 have R:=xh (zaO (w.alloc (.cells xZ 63)) at' (w.heap.size+1) (by simp))
 have HB:Hid (Below w.heap.size w ((w.alloc (.cells xZ 63)).alloc (.cells #[xI at',xI 0] 89))):=(xr.alloc xl _).alloc (by simp) _
 generalize ((w.alloc (.cells xZ 63)).alloc (.cells #[xI at',xI 0] 89))=V0 at*
 refine(c1 _ R.out (zaa hv.out HB.out)).mono ?_
 rintro e V1 ⟨rfl,hR,ho⟩
 replace OR:=xh (OR.out.onl ho (by omega));replace HB:=xh (HB.out.trans (ho.below (by omega) HB.out.size));replace R:=xh hR;clear ho hR
 have HG:Hid (w.heap.size+1<V1.heap.size):=World.block_lt_of_cell? V1 _ R.out.1
 go_wp2_with fail
 have OO:=xh (zah V1 k 0 false 0 0 0 0 0 0 0 0 0 63 V1.heap.size rfl)
 have hb:Below V1.heap.size V1 (V1.alloc (.cells (xO k 0 false 0 0 0 0 0 0 0 0 0) 63)):=(Below.refl _ V1).alloc xl _
 replace OR:=xh (OR.out.below hb);replace HB:=xh (HB.out.trans (hb.mono HB.out.size));replace R:=xh (R.out.below hb);clear hb
 generalize V1.alloc (.cells (xO k 0 false 0 0 0 0 0 0 0 0 0) 63)=V2 at*
 refine(za3 k _).mono ?_
 rintro e V3 ⟨rfl,hb⟩
 rw[hp]
 replace OR:=xh (OR.out.below hb);replace HB:=xh (HB.out.trans (hb.mono HB.out.size));replace R:=xh (R.out.below hb);replace OO:=xh (OO.out.below hb);clear hb
 have HH:Hid (V1.heap.size<V3.heap.size):=OO.out.lt
 go_wp2_with fail
 have PP:=xh (za4 V3 false false false false 182)
 have hb:Below V3.heap.size V3 (V3.alloc (.cells #[.bool false,.bool false,.bool false,.bool false] 182)):=(Below.refl _ V3).alloc xl _
 replace OR:=xh (OR.out.below hb);replace HB:=xh (HB.out.trans (hb.mono HB.out.size));replace R:=xh (R.out.below hb);replace OO:=xh (OO.out.below hb);clear hb
 generalize V3.alloc (.cells #[.bool false,.bool false,.bool false,.bool false] 182)=V4 at*
 refine(zay (w.heap.size+1) false s1 e1 _ R.out).mono ?_
 rintro e V5 ⟨rfl,hR,ho⟩
 replace OR:=xh (OR.out.onl ho (by omega));replace HB:=xh (HB.out.trans (ho.below (by omega) HB.out.size));replace R:=xh hR;replace OO:=xh (OO.out.onl ho (by have:=HG.out;have:=HH.out;omega));replace PP:=xh (PP.out.onl ho (by have:=HG.out;have:=HH.out;omega));clear ho hR
 go_wp2_with fail
 refine(c2 _ R.out (zaa hv.out HB.out)).mono ?_
 rintro e V6 ⟨rfl,hR,ho⟩
 replace OR:=xh (OR.out.onl ho (by omega));replace HB:=xh (HB.out.trans (ho.below (by omega) HB.out.size));replace R:=xh hR;replace OO:=xh (OO.out.onl ho (by have:=HG.out;have:=HH.out;omega));replace PP:=xh (PP.out.onl ho (by have:=HG.out;have:=HH.out;omega));clear ho hR
 obtain⟨c0,c1,c2,c3,c4,c5,c6,c7,c8,c9,c10,c11⟩:=OO.out.1
 have cf:=OO.out.2
 obtain⟨V7,hV7⟩:∃V7,(V6.setCell (V1.heap.size,1) (xI x))=V7:=⟨_,rfl⟩
 have o1:Onl V1.heap.size V6 (V6.setCell (V1.heap.size,1) (xI x)):=zbO V6 V1.heap.size x
 have OO2:=xh (OO.out.setx x)
 rw[hV7]at o1 OO2
 replace OO:=OO2
 clear OO2
 replace OR:=xh (OR.out.onl o1 (by have:=HG.out;have:=HH.out;omega))
 replace HB:=xh (HB.out.trans (o1.below (by have:=HG.out;have:=HH.out;omega) HB.out.size))
 replace R:=xh (R.out.onl o1 (by have:=HG.out;have:=HH.out;omega))
 replace PP:=xh (PP.out.onl o1 (by have:=HG.out;have:=HH.out;omega))
 clear o1
 obtain⟨p0,p1,p2,p3⟩:=PP.out
 go_wp2_with fail
 clear c0 c1 c2 c3 c4 c5 c6 c7 c8 c9 c10 c11 cf hV7 p0 p1 p2 p3
 replace OO:Hid (Own12 V7.drew V1.heap.size k x false 0 0 0 0 0 0 0 0 0):=OO.out
 replace OR:Hid (Own12 V7.drew w.heap.size 0 0 false 0 0 0 0 0 0 0 0 0):=OR.out
 replace R:Hid (Rd V7.drew (w.heap.size+1) s2 e2):=R.out
 replace HB:Hid (Below w.heap.size w V7.drew):=HB.out.drew
 obtain⟨c0,c1,c2,c3,c4,c5,c6,c7,c8,c9,c10,c11⟩:=(show Own12 V7 V1.heap.size k x false 0 0 0 0 0 0 0 0 0 from OO.out).1
 clear PP HH
 go_region_with (first
  | (go_at_call 130;refine(cC _).mono ?_;rintro e V88 ⟨rfl,hb⟩;replace OO:=xh (OO.out.below hb);replace OR:=xh (OR.out.below hb);replace HB:=xh (HB.out.trans (hb.mono HB.out.size));replace R:=xh (R.out.below hb);clear hb;clear c0 c1 c2 c3 c4 c5 c6 c7 c8 c9 c10 c11;obtain⟨c0,c1,c2,c3,c4,c5,c6,c7,c8,c9,c10,c11⟩:=OO.out.1)
  | (go_at_call 141;refine(D _ R.out).mono ?_;rintro e V99 ⟨rfl,ho⟩;replace OR:=xh (OR.out.onl ho (by omega));replace HB:=xh (HB.out.trans (ho.below (by omega) HB.out.size));clear ho;clear c0 c1 c2 c3 c4 c5 c6 c7 c8 c9 c10 c11;obtain⟨⟨u0,u1,u2,u3,u4,u5,u6,u7,u8,u9,u10,u11⟩,uf⟩:=OR.out))
 all_goals
  go_wp2_with fail
  have hs:=(OR.out.setall k9 x9 n9 t9 o9 r9 d9 i9 p9 q9 s9 m9).1
  have hbs:=za5 (b:=w.heap.size) HB.out xl k9 x9 n9 t9 o9 r9 d9 i9 p9 q9 s9 m9
  generalize (xC V99 w.heap.size (xO k9 x9 n9 t9 o9 r9 d9 i9 p9 q9 s9 m9):World)=W5 at*
  obtain⟨s0_,s1_,s2_,s3_,s4_,s5_,s6_,s7_,s8_,s9_,s10_,s11_⟩:=hs
  exact bodyPost_ret (v:=.tuple #[.agg (xO k9 x9 n9 t9 o9 r9 d9 i9 p9 q9 s9 m9),xI to9,xI e9]) (by simp[results,Tryz.results114,go_sem,s0_,s1_,s2_,s3_,s4_,s5_,s6_,s7_,s8_,s9_,s10_,s11_]) rfl ⟨rfl,hbs⟩
end
end Go.Proofs.YtjghebcnmoojmaaGreat
