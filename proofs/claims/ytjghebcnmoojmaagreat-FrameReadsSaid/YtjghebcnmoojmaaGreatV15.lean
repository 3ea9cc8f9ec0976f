/- The reader's contracts: What the reader answers at its end, of a height. What parsing a height answers, and how a height lies in memory while it is parsed. What -/
import Derived.Test.YtjghebcnmoojmaaGreatV06
set_option maxRecDepth 100000
set_option maxHeartbeats 32000000
namespace Go.Proofs.YtjghebcnmoojmaaGreat
open Go.RowKit MX
section
open Go.Sort
def Rd (w:World)(b:Nat)(at' e:Int):Prop:=
 w.cell? (xQ b 0)=xJ at'∧w.cell? (xQ b 1)=xJ e∧∀k,w.frozen? ⟨b,k,none⟩=false
structure Onl (b:Nat)(w w':World):Prop where
 os:w'.os=w.os
 tape:w'.tape=w.tape
 output:w'.output=w.output
 size:w.heap.size≤w'.heap.size
 block:∀k,k<w.heap.size→k≠b→w'.heap[k]? =w.heap[k]?
theorem Onl.refl (b:Nat)(w:World):Onl b w w:=⟨rfl,rfl,rfl,Nat.le_refl _,fun _ _ _=>rfl⟩
theorem Onl.trans {b:Nat}{w1 w2 w3:World}(h:Onl b w1 w2)(h':Onl b w2 w3):Onl b w1 w3:=
 ⟨h'.os.trans h.os,h'.tape.trans h.tape,h'.output.trans h.output,Nat.le_trans h.size h'.size,fun k hk hb=>(h'.block k (Nat.lt_of_lt_of_le hk h.size) hb).trans (h.block k hk hb)⟩
theorem Onl.of_below (b:Nat){w w':World}(h:Below w.heap.size w w'):Onl b w w':=⟨h.os,h.tape,h.output,h.size,fun k hk _=>h.block k hk⟩
theorem Onl.below {b B:Nat}{w w':World}(h:Onl b w w')(hB:B≤b)(hw:B≤w.heap.size):Below B w w':=
 ⟨h.os,h.tape,h.output,h.size,fun k hk=>h.block k (Nat.lt_of_lt_of_le hk hw) (by omega)⟩
theorem zgq (w:World)(p:Addr)(u:Value):(w.setCell p u).heap.size=w.heap.size:=by simp
theorem Onl.set {b:Nat}{w w':World}(h:Onl b w w')(j:Nat)(u:Value):Onl b w (w'.setCell ⟨b,j,none⟩ u):=by
 have hb:Below b w' (w'.setCell ⟨b,j,none⟩ u):=(Below.refl b w').setCell xl u
 exact⟨hb.os.trans h.os,hb.tape.trans h.tape,hb.output.trans h.output,Nat.le_trans h.size (Nat.le_of_eq (zgq _ _ _).symm),fun k hk hkb=>(Below.heap_setCell w' ⟨b,j,none⟩ u k hkb).trans (h.block k hk hkb)⟩
theorem Onl.alloc {b:Nat}{w w':World}(h:Onl b w w')(O:Obj):Onl b w (w'.alloc O):=h.trans (Onl.of_below b (xr.alloc xl O))
theorem Onl.cell {b:Nat}{w w':World}(h:Onl b w w'){p:Addr}(hp:p.block≠b)(hl:p.block<w.heap.size):w'.cell? p=w.cell? p:=World.cell?_of_block (w:=w) (h.block p.block hl hp)
theorem Onl.frozen {b:Nat}{w w':World}(h:Onl b w w'){p:Addr}(hp:p.block≠b)(hl:p.block<w.heap.size):w'.frozen? p=w.frozen? p:=World.frozen?_of_block (w:=w) (h.block p.block hl hp)
theorem Own6.onl {w w':World}{b g:Nat}{n:Bool}{t o r d i:Int}(h:Own6 w g n t o r d i)(ho:Onl b w w')(hg:g≠b):Own6 w' g n t o r d i:=by
 obtain⟨⟨h0,h1,h2,h3,h4,h5⟩,hf⟩:=h
 have hl:=World.block_lt_of_cell? w _ h0
 exact⟨⟨(ho.cell (p:=xQ g 0) hg hl).trans h0,(ho.cell (p:=xQ g 1) hg hl).trans h1,(ho.cell (p:=xQ g 2) hg hl).trans h2,(ho.cell (p:=xQ g 3) hg hl).trans h3,(ho.cell (p:=xQ g 4) hg hl).trans h4,(ho.cell (p:=xQ g 5) hg hl).trans h5⟩,fun k=>(ho.frozen (p:=⟨g,k,none⟩) hg hl).trans (hf k)⟩
theorem Rd.onl {w w':World}{b g:Nat}{x y:Int}(h:Rd w g x y)(ho:Onl b w w')(hg:g≠b):Rd w' g x y:=by
 have hl:=World.block_lt_of_cell? w _ h.1
 exact⟨(ho.cell (p:=xQ g 0) hg hl).trans h.1,(ho.cell (p:=xQ g 1) hg hl).trans h.2.1,fun k=>(ho.frozen (p:=⟨g,k,none⟩) hg hl).trans (h.2.2 k)⟩
theorem Rd.below {w w':World}{g:Nat}{x y:Int}(h:Rd w g x y)(hb:Below w.heap.size w w'):Rd w' g x y:=by
 have hl:=World.block_lt_of_cell? w _ h.1
 exact⟨(hb.cell (p:=xQ g 0) hl).trans h.1,(hb.cell (p:=xQ g 1) hl).trans h.2.1,fun k=>(hb.frozen (p:=⟨g,k,none⟩) hl).trans (h.2.2 k)⟩
theorem Rd.set {w:World}{b:Nat}{x y:Int}(h:Rd w b x y)(x' y':Int):Rd (xC w b #[xI x',xI y']) b x' y':=by
 obtain⟨h0,h1,hf⟩:=h
 refine⟨?_,?_,fun k=>?_⟩<;>simp[go_sem,h0,h1,hf]
theorem Rd.sete {w:World}{b:Nat}{x y:Int}(h:Rd w b x y)(y':Int):Rd (w.setCell (xQ b 1) (xI y')) b x y':=by
 obtain⟨h0,h1,hf⟩:=h
 refine⟨?_,?_,fun k=>?_⟩<;>simp[go_sem,h0,h1,hf]
theorem Rd.alloc {w:World}{b:Nat}{x y:Int}(h:Rd w b x y)(O:Obj):Rd (w.alloc O) b x y:=h.below (xr.alloc xl O)
def numS (xs:List Int)(n:Int)(s:Int×Int):Int×Int×Int:=if s.2=0 then getS xs s.1 n else(0,s)
def zab (xs:List Int)(s:Int×Int):Int×Int×Int:=if s.2=0 then getS xs s.1 1 else(0,s)
def zaB (xs:List Int)(s:Int×Int):Int×Int×Int:=if s.2=0 then zaH xs s.1 else(0,s)
theorem za6 (k:Int)(w:World):
  Calls Tryz.prog 30 #[xI k] w fun e w'=>e=.returned (xP w.heap.size)∧w'=w.alloc (.cells #[xI k,xI 0] 89):=by
 go_enter Tryz.func30,Tryz.ntmps30
 go_wp2_with fail
 go_ret
 exact⟨rfl,rfl⟩
theorem zaO (w:World)(k:Int)(g:Nat)(hg:g=w.heap.size):Rd (w.alloc (.cells #[xI k,xI 0] 89)) g k 0:=by
 subst hg
 refine⟨?_,?_,fun k=>?_⟩<;>simp
theorem zkW (g:Nat)(v:Value)(xs:List Int)(k n:Int)(w:World)(hn:w.cell? (xQ g 0)=xJ n)(hv:Bs w v xs):
  Calls Tryz.prog 52 #[v,xI k,xP g] w fun e w'=>e=.returned (tri (getS xs k n))∧w=w':=by
 have cG:=zjq v xs k n w hv
 generalize getS xs k n=r at*
 obtain⟨r1,r2,r3⟩:=r
 simp only[tri]at*
 obtain⟨a,l,c,rfl⟩:=zal hv
 clear hv
 go_enter Tryz.func52,Tryz.ntmps52
 go_wp2_with (go_at_call 53;refine cG.mono ?_;rintro e w' ⟨rfl,hw⟩;subst hw)
 go_ret3
 exact⟨rfl,rfl⟩
theorem zm8 (b:Nat)(v:Value)(xs:List Int)(k:Int)(g:Nat)(n:Int)(w:World)(h:Rd w b k 0)(hn:w.cell? (xQ g 0)=xJ n)(hv:Bs w v xs):
  Calls Tryz.prog 51 #[xP b,v,xW 52 g] w fun e w'=>e=.returned (xI (getS xs k n).1)∧Rd w' b (getS xs k n).2.1 (getS xs k n).2.2∧Onl b w w':=by
 have cG:=zkW g v xs k n w hn hv
 generalize getS xs k n=r at*
 obtain⟨r1,r2,r3⟩:=r
 simp only[tri]at*
 obtain⟨a,l,c,rfl⟩:=zal hv
 have R:=xh h
 obtain⟨h0,h1,hf⟩:=h
 clear hv
 go_enter Tryz.func51,Tryz.ntmps51
 go_wp2_with (go_at_call 52;refine cG.mono ?_;rintro e w' ⟨rfl,hw⟩;subst hw)
 go_ret
 exact⟨rfl,R.out.set _ _,((Onl.refl _ _).set 0 _).set 1 _⟩
theorem znq (b:Nat)(v:Value)(xs:List Int)(k:Int)(w:World)(h:Rd w b k 0)(hv:Bs w v xs):
  Calls Tryz.prog 51 #[xP b,v,.func (Fn.func 153) #[] #[]] w fun e w'=>e=.returned (xI (zaH xs k).1)∧Rd w' b (zaH xs k).2.1 (zaH xs k).2.2∧Onl b w w':=by
 have cG:=zis v xs k w hv
 generalize zaH xs k=r at*
 obtain⟨r1,r2,r3⟩:=r
 simp only[tri]at*
 obtain⟨a,l,c,rfl⟩:=zal hv
 have R:=xh h
 obtain⟨h0,h1,hf⟩:=h
 clear hv
 go_enter Tryz.func51,Tryz.ntmps51
 go_wp2_with (go_at_call 153;refine cG.mono ?_;rintro e w' ⟨rfl,hw⟩;subst hw)
 go_ret
 exact⟨rfl,R.out.set _ _,((Onl.refl _ _).set 0 _).set 1 _⟩
theorem zj5 (b:Nat)(a:Option Addr)(l c:Nat)(F:Value)(k e0:Int)(w:World)(h:Rd w b k e0)(he:e0≠0):
  Calls Tryz.prog 51 #[xP b,.slice a l c,F] w fun e w'=>e=.returned (xI 0)∧w=w':=by
 have hne:(e0==0)=false:=by simpa using he
 obtain⟨h0,h1,hf⟩:=h
 clear he
 go_enter Tryz.func51,Tryz.ntmps51
 go_wp2_with fail
 go_ret
 exact⟨rfl,rfl⟩
theorem zad (b:Nat)(v:Value)(xs:List Int)(n k e0:Int)(w:World)(h:Rd w b k e0)(hv:Bs w v xs):
  Calls Tryz.prog 31 #[xP b,v,xI n] w fun e w'=>e=.returned (xI (numS xs n (k,e0)).1)∧Rd w' b (numS xs n (k,e0)).2.1 (numS xs n (k,e0)).2.2∧Onl b w w':=by
 have hb:Below w.heap.size w (w.alloc (.cells #[xI n] 3)):=xr.alloc xl _
 by_cases he:e0=0
 ·subst he
  have cG:=zm8 b v xs k w.heap.size n (w.alloc (.cells #[xI n] 3)) (h.alloc _) (by simp) (zaa hv hb)
  have hs:numS xs n (k,0)=getS xs k n:=by simp[numS]
  rw[hs]
  generalize getS xs k n=r at*
  obtain⟨r1,r2,r3⟩:=r
  obtain⟨a,l,c,rfl⟩:=zal hv
  have HB:=xh hb
  clear hv h hs hb
  go_enter Tryz.func31,Tryz.ntmps31
  go_wp2_with (go_at_call 51;refine cG.mono ?_;rintro e w' ⟨rfl,hR,hO⟩)
  go_ret
  exact⟨rfl,hR,(Onl.of_below b HB.out).trans hO⟩
 ·obtain⟨a,l,c,rfl⟩:=zal hv
  have cG:=fun F=>zj5 b a l c F k e0 (w.alloc (.cells #[xI n] 3)) (h.alloc _) he
  have hs:numS xs n (k,e0)=(0,(k,e0)):=by simp[numS,he]
  rw[hs]
  have HB:=xh hb
  have R:=xh (h.alloc (.cells #[xI n] 3))
  clear hv h hs hb he
  go_enter Tryz.func31,Tryz.ntmps31
  go_wp2_with (go_at_call 51;refine(cG _).mono ?_;rintro e w' ⟨rfl,hw⟩;subst hw)
  go_ret
  exact⟨rfl,R.out,Onl.of_below b HB.out⟩
theorem zce (b:Nat)(v:Value)(xs:List Int)(k e0:Int)(w:World)(h:Rd w b k e0)(hv:Bs w v xs):
  Calls Tryz.prog 138 #[xP b,v] w fun e w'=>e=.returned (xI (zaB xs (k,e0)).1)∧Rd w' b (zaB xs (k,e0)).2.1 (zaB xs (k,e0)).2.2∧Onl b w w':=by
 by_cases he:e0=0
 ·subst he
  have cG:=znq b v xs k w h hv
  have hs:zaB xs (k,0)=zaH xs k:=by simp[zaB]
  rw[hs]
  generalize zaH xs k=r at*
  obtain⟨r1,r2,r3⟩:=r
  obtain⟨a,l,c,rfl⟩:=zal hv
  clear hv h hs
  go_enter Tryz.func138,Tryz.ntmps138
  go_wp2_with (go_at_call 51;refine cG.mono ?_;rintro e w' ⟨rfl,hR,hO⟩)
  go_ret
  exact⟨rfl,hR,hO⟩
 ·obtain⟨a,l,c,rfl⟩:=zal hv
  have cG:=fun F=>zj5 b a l c F k e0 w h he
  have hs:zaB xs (k,e0)=(0,(k,e0)):=by simp[zaB,he]
  rw[hs]
  have R:=xh h
  clear hv h hs he
  go_enter Tryz.func138,Tryz.ntmps138
  go_wp2_with (go_at_call 51;refine(cG _).mono ?_;rintro e w' ⟨rfl,hw⟩;subst hw)
  go_ret
  exact⟨rfl,R.out,Onl.refl b _⟩
def zai (e:Int)(ok:Bool):Int:=if e=0∧ok=false then 4 else e
theorem zay (b:Nat)(ok:Bool)(k e0:Int)(w:World)(h:Rd w b k e0):
  Calls Tryz.prog 57 #[xP b,.bool ok] w fun e w'=>e=.returned (.tuple #[])∧Rd w' b k (zai e0 ok)∧Onl b w w':=by
 have R:=xh h
 obtain⟨h0,h1,hf⟩:=h
 by_cases he:e0=0
 ·subst he
  cases ok with
  | true=>
   go_enter Tryz.func57,Tryz.ntmps57
   go_wp2_with fail
   go_end0
   exact⟨rfl,R.out,Onl.refl b _⟩
  | false=>
   go_enter Tryz.func57,Tryz.ntmps57
   go_wp2_with fail
   go_end0
   exact⟨rfl,R.out.sete 4,(Onl.refl b _).set 1 _⟩
 ·have hne:(e0==0)=false:=by simpa using he
  have hn:zai e0 ok=e0:=by simp[zai,he]
  rw[hn]
  clear he hn
  go_enter Tryz.func57,Tryz.ntmps57
  go_wp2_with fail
  go_end0
  exact⟨rfl,R.out,Onl.refl b _⟩
end
section
open Go.Sort
theorem Onl.then {b B:Nat}{w w1 w2:World}(h:Onl b w w1)(h':Below B w1 w2)(hB:w.heap.size≤B):Onl b w w2:=
 ⟨h'.os.trans h.os,h'.tape.trans h.tape,h'.output.trans h.output,Nat.le_trans h.size h'.size,fun k hk hkb=>(h'.block k (Nat.lt_of_lt_of_le hk hB)).trans (h.block k hk hkb)⟩
theorem zli (b:Nat)(n:Bool)(t o r d i:Int)(ok:Bool)(k e0 e1:Int)(w:World)(h:Rd w b k e0)(hn:zai e0 ok=e1)(he:e1≠0):
  Calls Tryz.prog 154 #[xP b,.agg (xB n t o r d i),.bool ok] w fun e w'=>e=.returned (.tuple #[.agg xE,xI 0,xI e1])∧Onl b w w':=by
 have hne:(e1==0)=false:=by simpa using he
 have hlt:=World.block_lt_of_cell? w _ h.1
 have hb0:Below w.heap.size w ((w.alloc (.cells (xB n t o r d i) 59)).alloc (.cells xE 59)):=(xr.alloc xl _).alloc (by simp) _
 have cN:=zay b ok k e0 ((w.alloc (.cells (xB n t o r d i) 59)).alloc (.cells xE 59)) (h.below hb0)
 rw[hn]at cN
 have OB:=xh (zar (w.alloc (.cells (xB n t o r d i) 59)) false 0 0 0 0 0 59 (w.heap.size+1) (by simp))
 have HB:=xh (Onl.of_below b hb0)
 have HL:Hid (b<w.heap.size):=hlt
 clear h hn he hlt hb0
 go_enter Tryz.func154,Tryz.ntmps154
 go_wp2_with (go_at_call 57;refine cN.mono ?_;rintro e w1 ⟨rfl,hR,hO⟩;replace OB:=xh (OB.out.onl hO (by have:=HL.out;omega));replace HB:=xh (HB.out.trans hO);have R:=xh hR;clear hO hR;obtain⟨z0,z1,zf⟩:=R.out)
 have OB2:=xh (OB.out.below (xr.alloc xl (.cells xE 59)))
 have OZ:=xh (zar w1 false 0 0 0 0 0 59 w1.heap.size rfl)
 have R2:=xh (R.out.alloc (.cells xE 59))
 have HB2:=xh (HB.out.alloc (.cells xE 59))
 have hne2:Hid (w.heap.size+1<w1.heap.size):=World.block_lt_of_cell? w1 _ OB.out.1.1
 clear z0 z1 zf R OB HB
 generalize w1.alloc (.cells xE 59)=V at*
 obtain⟨z0,z1,zf⟩:=R2.out
 obtain⟨⟨q0,q1,q2,q3,q4,q5⟩,qf⟩:=OZ.out
 obtain⟨⟨u0,u1,u2,u3,u4,u5⟩,uf⟩:=OB2.out
 have hd1:b≠w.heap.size+1:=by have:=HL.out;omega
 have hd2:w.heap.size+1≠b:=by have:=HL.out;omega
 go_region
 go_wp2_with fail
 have hs:=set6 OB2.out.1 false 0 0 0 0 0
 have hbs:=zbr (B:=w.heap.size) (Below.refl _ V) (b:=w.heap.size+1) (by omega) false 0 0 0 0 0
 generalize (xC V (w.heap.size+1) xE:World)=W5 at*
 obtain⟨s0_,s1_,s2_,s3_,s4_,s5_⟩:=hs
 exact bodyPost_ret (v:=.tuple #[.agg xE,xI 0,xI e1]) (by simp[results,Tryz.results154,go_sem,s0_,s1_,s2_,s3_,s4_,s5_]) rfl ⟨rfl,HB2.out.then hbs.drew xl⟩
theorem zn8 (b:Nat)(n:Bool)(t o r d i:Int)(k:Int)(w:World)(h:Rd w b k 0):
  Calls Tryz.prog 154 #[xP b,.agg (xB n t o r d i),.bool true] w fun e w'=>e=.returned (.tuple #[.agg (xB n t o r d i),xI k,xI 0])∧Onl b w w':=by
 have hlt:=World.block_lt_of_cell? w _ h.1
 have hb0:Below w.heap.size w ((w.alloc (.cells (xB n t o r d i) 59)).alloc (.cells xE 59)):=(xr.alloc xl _).alloc (by simp) _
 have cN:=zay b true k 0 ((w.alloc (.cells (xB n t o r d i) 59)).alloc (.cells xE 59)) (h.below hb0)
 rw[show zai 0 true=0 from rfl]at cN
 have OA:=xh ((zar w n t o r d i 59 w.heap.size rfl).below (xr.alloc xl (.cells xE 59)))
 have OB:=xh (zar (w.alloc (.cells (xB n t o r d i) 59)) false 0 0 0 0 0 59 (w.heap.size+1) (by simp))
 have HB:=xh (Onl.of_below b hb0)
 have HL:Hid (b<w.heap.size):=hlt
 clear h hlt hb0
 go_enter Tryz.func154,Tryz.ntmps154
 go_wp2_with (go_at_call 57;refine cN.mono ?_;rintro e w1 ⟨rfl,hR,hO⟩;replace OB:=xh (OB.out.onl hO (by have:=HL.out;omega));replace OA:=xh (OA.out.onl hO (by have:=HL.out;omega));replace HB:=xh (HB.out.trans hO);have R:=xh hR;clear hO hR;obtain⟨z0,z1,zf⟩:=R.out)
 obtain⟨⟨q0,q1,q2,q3,q4,q5⟩,qf⟩:=OA.out
 obtain⟨⟨u0,u1,u2,u3,u4,u5⟩,uf⟩:=OB.out
 have hd1:b≠w.heap.size+1:=by have:=HL.out;omega
 have hd2:w.heap.size+1≠b:=by have:=HL.out;omega
 go_region
 go_wp2_with fail
 have hs:=set6 OB.out.1 n t o r d i
 have hbs:=zbr (B:=w.heap.size) (Below.refl _ w1) (b:=w.heap.size+1) (by omega) n t o r d i
 generalize (xC w1 (w.heap.size+1) (xB n t o r d i):World)=W5 at*
 obtain⟨s0_,s1_,s2_,s3_,s4_,s5_⟩:=hs
 exact bodyPost_ret (v:=.tuple #[.agg (xB n t o r d i),xI k,xI 0]) (by simp[results,Tryz.results154,go_sem,s0_,s1_,s2_,s3_,s4_,s5_]) rfl ⟨rfl,HB.out.then hbs.drew xl⟩
end
section
open Go.Sort
structure PR where
 n:Bool
 t:Int
 o:Int
 r:Int
 d:Int
 i:Int
 to:Int
 e:Int
def PR.v (p:PR):Value:=.tuple #[.agg (xB p.n p.t p.o p.r p.d p.i),xI p.to,xI p.e]
def PR.no (e:Int):PR:=⟨false,0,0,0,0,0,0,e⟩
def zbg (n:Bool)(t o r d:Int)(s:Int×Int×Int):PR:=if s.2.2=0 then(if HtOk n t o r d s.1 then⟨n,t,o,r,d,s.1,s.2.1,0⟩else .no 4)else .no s.2.2
def zaG (xs:List Int)(k:Int):PR:=
 if(zab xs (k,0)).1=0 then zbg true 0 0 0 0 (zab xs (zab xs (k,0)).2)
 else if(zab xs (k,0)).1=1 then
  zbg false (zaB xs (zab xs (k,0)).2).1 (zab xs (zaB xs (zab xs (k,0)).2).2).1 (zab xs (zab xs (zaB xs (zab xs (k,0)).2).2).2).1
   (zaB xs (zab xs (zab xs (zaB xs (zab xs (k,0)).2).2).2).2).1 (zab xs (zaB xs (zab xs (zab xs (zaB xs (zab xs (k,0)).2).2).2).2).2)
 else .no 4
theorem Own6.setn {w:World}{g:Nat}{n:Bool}{t o r d i:Int}(h:Own6 w g n t o r d i)(m:Bool):Own6 (w.setCell (xQ g 0) (.bool m)) g m t o r d i:=by
 obtain⟨⟨h0,h1,h2,h3,h4,h5⟩,hf⟩:=h
 refine⟨⟨?_,?_,?_,?_,?_,?_⟩,fun k=>?_⟩<;>simp[go_sem,h0,h1,h2,h3,h4,h5,hf]
theorem Own6.seti {w:World}{g:Nat}{n:Bool}{t o r d i:Int}(h:Own6 w g n t o r d i)(m:Int):Own6 (w.setCell (xQ g 5) (xI m)) g n t o r d m:=by
 obtain⟨⟨h0,h1,h2,h3,h4,h5⟩,hf⟩:=h
 refine⟨⟨?_,?_,?_,?_,?_,?_⟩,fun k=>?_⟩<;>simp[go_sem,h0,h1,h2,h3,h4,h5,hf]
theorem Own6.set {w:World}{g:Nat}{m:Bool}{x1 x2 x3 x4 x5:Int}(h:Own6 w g m x1 x2 x3 x4 x5)(n:Bool)(t o r d i:Int):Own6 (xC w g (xB n t o r d i)) g n t o r d i:=
 ⟨set6 h.1 n t o r d i,fun k=>by simp[go_sem,h.2]⟩
def zd3 (e0:Int)(ok:Bool)(n:Bool)(t o r d i k:Int):PR:=if zai e0 ok=0 then⟨n,t,o,r,d,i,k,0⟩else .no (zai e0 ok)
theorem zdf (b:Nat)(n:Bool)(t o r d i:Int)(ok:Bool)(k e0:Int)(w:World)(h:Rd w b k e0):
  Calls Tryz.prog 154 #[xP b,.agg (xB n t o r d i),.bool ok] w fun e w'=>e=.returned (zd3 e0 ok n t o r d i k).v∧Onl b w w':=by
 unfold zd3
 by_cases he:zai e0 ok=0
 ·rw[if_pos he]
  have h0:e0=0:=by unfold zai at he;split at he<;>omega
  subst h0
  have h1:ok=true:=by cases ok with
   | true=>rfl
   | false=>simp[zai]at he
  subst h1
  exact zn8 b n t o r d i k w h
 ·rw[if_neg he]
  exact zli b n t o r d i ok k e0 _ w h rfl he
end
section
open Go.Sort
theorem zex (xs:List Int)(K:Nat)(h:K<xs.length):segN xs K 1=xs.getD K 0:=by
 unfold segN
 rw[List.drop_eq_getElem_cons h,List.take_succ_cons,List.take_zero]
 simp[be,List.getD,h]
theorem zhK (xs:List Int)(K:Nat)(h:K<xs.length):zab xs ((K:Int),0)=(xs.getD K 0,(K:Int)+1,0):=by
 unfold zab getS
 rw[if_pos rfl,if_neg (by simp only[];omega),if_neg (by simp only[];omega)]
 simp only[Int.toNat_natCast]
 rw[show(1:Int).toNat=1 from rfl,zex xs K h]
theorem zok (xs:List Int)(K:Nat)(h:K+8≤xs.length):zaB xs ((K:Int),0)=(wrap64 (segN xs K 8),(K:Int)+8,0):=by
 unfold zaB zaH
 rw[if_pos rfl,if_neg (by simp only[];omega),if_neg (by simp only[];omega)]
 simp only[Int.toNat_natCast]
theorem zbj {xs:List Int}{K:Nat}{e x s:Int}(h:zab xs ((K:Int),e)=(x,s,0)):e=0∧K<xs.length∧x=xs.getD K 0∧s=(K:Int)+1:=by
 by_cases he:e=0
 ·subst he
  by_cases hk:K<xs.length
  ·rw[zhK xs K hk]at h
   simp only[Prod.mk.injEq]at h
   exact⟨rfl,hk,h.1.symm,h.2.1.symm⟩
  ·unfold zab getS at h
   rw[if_pos rfl]at h
   by_cases h1:(xs.length:Int)<(K:Int)
   ·rw[if_pos (by simp only[];omega)]at h;simp at h
   ·rw[if_neg (by simp only[];omega),if_pos (by simp only[];omega)]at h;simp at h
 ·simp[zab,he]at h
theorem zfg {xs:List Int}{K:Nat}{e x s:Int}(h:zaB xs ((K:Int),e)=(x,s,0)):e=0∧K+8≤xs.length∧x=wrap64 (segN xs K 8)∧s=(K:Int)+8:=by
 by_cases he:e=0
 ·subst he
  by_cases hk:K+8≤xs.length
  ·rw[zok xs K hk]at h
   simp only[Prod.mk.injEq]at h
   exact⟨rfl,hk,h.1.symm,h.2.1.symm⟩
  ·unfold zaB zaH at h
   rw[if_pos rfl]at h
   by_cases h1:(xs.length:Int)<(K:Int)
   ·rw[if_pos (by simp only[];omega)]at h;simp at h
   ·rw[if_neg (by simp only[];omega),if_pos (by simp only[];omega)]at h;simp at h
 ·simp[zaB,he]at h
theorem zot {xs:List Int}(hx:∀x∈xs,0≤x∧x<256)(K:Nat)(h:K+8≤xs.length):0≤segN xs K 8∧segN xs K 8<18446744073709551616:=by
 have h1:=zjY _ (zbw hx K 8)
 rw[show((xs.drop K).take 8).length=8 by simp;omega,show zao 8=18446744073709551616 by decide]at h1
 exact h1
theorem zeJ {xs:List Int}{K:Nat}(hx:∀x∈xs,0≤x∧x<256)(h:K+8≤xs.length):i8 (wrap64 (segN xs K 8))=(xs.drop K).take 8:=by
 have h1:=zgF ((xs.drop K).take 8) (zbw hx K 8)
 have h2:=zot hx K h
 rw[show((xs.drop K).take 8).length=8 by simp;omega]at h1
 have e:IntKind.u64.wrap (wrap64 (segN xs K 8))=segN xs K 8:=by
  rw[IntKind.wrap_u64];unfold wrap64;omega
 unfold i8
 rw[e];exact h1
theorem zfe (xs:List Int)(K:Nat)(h:K<xs.length):(xs.drop K).take 1=[xs.getD K 0]:=by
 rw[List.drop_eq_getElem_cons h,List.take_succ_cons,List.take_zero]
 simp[List.getD,h]
theorem zef (xs:List Int)(K:Nat)(h:K+1<xs.length):(xs.drop K).take 2=[xs.getD K 0,xs.getD (K+1) 0]:=by
 rw[List.drop_eq_getElem_cons (by omega),List.take_succ_cons,List.drop_eq_getElem_cons (by omega),List.take_succ_cons,List.take_zero]
 simp[List.getD,show K<xs.length by omega,h]
theorem zbk (f m:List Int)(x:Int)(K:Nat)(hK:K=f.length):zab (f++(x::m)) ((K:Int),0)=(x,(K:Int)+1,0):=by
 subst hK
 rw[zhK _ _ (by simp)]
 simp[List.getD]
theorem zfx (f m:List Int){v:Int}(h: -9223372036854775808≤v)(h':v<9223372036854775808)(K:Nat)(hK:K=f.length):zaB (f++(i8 v++m)) ((K:Int),0)=(v,(K:Int)+8,0):=by
 subst hK
 unfold zaB
 rw[if_pos rfl]
 exact zg1 f m h h'
theorem zi3 (n:Bool)(t o r d i:Int):(htB n t o r d i).length=if n then 2 else 20:=by
 cases n<;>simp[htB,zca]
theorem zgb (f m:List Int){n:Bool}{t o r d i:Int}(h:HtOk n t o r d i):
  zaG (f++(htB n t o r d i++m)) f.length=⟨n,t,o,r,d,i,(f.length:Int)+((htB n t o r d i).length:Int),0⟩:=by
 cases n with
 | true=>
  have hn:t=0∧o=0∧r=0∧d=0:=by
   rcases h.2 with h|h
   ·exact h.2
   ·cases h.1
  obtain⟨rfl,rfl,rfl,rfl⟩:=hn
  have e:f++(htB true 0 0 0 0 i++m)=f++(0::(i::m)):=by simp[htB]
  have e':f++(0::(i::m))=(f++[0])++(i::m):=by simp
  have h1:=zbk f (i::m) 0 f.length rfl
  have h2:=zbk (f++[0]) m i (f.length+1) (by simp)
  rw[←e']at h2
  rw[e,zi3]
  unfold zaG
  simp only[h1,if_true]
  rw[show((f.length:Int)+1)=((f.length+1:Nat):Int)by omega,h2]
  unfold zbg
  simp only[if_true]
  rw[if_pos h]
  congr 1
 | false=>
  have hr:zcd t o r d:=by
   rcases h.2 with h|h
   ·cases h.1
   ·exact h.2
  unfold zcd at hr
  obtain⟨t1,t2,-,-,d1,d2⟩:=hr
  have e:f++(htB false t o r d i++m)=f++(1::(i8 t++(o::(r::(i8 d++(i::m)))))):=by simp[htB]
  have h1:=zbk f (i8 t++(o::(r::(i8 d++(i::m))))) 1 f.length rfl
  have h2:=zfx (f++[1]) (o::(r::(i8 d++(i::m)))) (v:=t) (by omega) (by omega) (f.length+1) (by simp)
  have h3:=zbk (f++[1]++i8 t) (r::(i8 d++(i::m))) o (f.length+9) (by simp[zca])
  have h4:=zbk (f++[1]++i8 t++[o]) (i8 d++(i::m)) r (f.length+10) (by simp[zca])
  have h5:=zfx (f++[1]++i8 t++[o]++[r]) (i::m) (v:=d) (by omega) (by omega) (f.length+11) (by simp[zca])
  have h6:=zbk (f++[1]++i8 t++[o]++[r]++i8 d) m i (f.length+19) (by simp[zca])
  simp only[List.append_assoc,List.nil_append,List.cons_append]at h1 h2 h3 h4 h5 h6
  rw[e,zi3]
  unfold zaG
  simp only[h1,show ¬((1:Int)=0)by decide,if_false,if_true]
  rw[show((f.length:Int)+1)=((f.length+1:Nat):Int)by omega]
  simp only[h2]
  rw[show(((f.length+1:Nat):Int)+8)=((f.length+9:Nat):Int)by omega]
  simp only[h3]
  rw[show(((f.length+9:Nat):Int)+1)=((f.length+10:Nat):Int)by omega]
  simp only[h4]
  rw[show(((f.length+10:Nat):Int)+1)=((f.length+11:Nat):Int)by omega]
  simp only[h5]
  rw[show(((f.length+11:Nat):Int)+8)=((f.length+19:Nat):Int)by omega]
  simp only[h6]
  unfold zbg
  simp only[if_true]
  rw[if_pos h]
  congr 1
end
theorem zoM {xs:List Int}{k n:Int}(h:(getS xs k n).2.2≠0):(getS xs k n).1=0:=by
 unfold getS at*
 split at h
 ·rename_i h1;rw[if_pos h1]
 ·rename_i h1
  split at h
  ·rename_i h2;rw[if_neg h1,if_pos h2]
  ·simp at h
theorem zop {xs:List Int}(hx:∀x∈xs,0≤x∧x<256)(p n:Int):0≤(getS xs p n).1:=by
 unfold getS
 split
 ·simp
 ·split
  ·simp
  ·exact(zfK hx p.toNat n.toNat).1
theorem Own6.lt6 {w:World}{b:Nat}{n:Bool}{t o r d i:Int}(h:Own6 w b n t o r d i):b<w.heap.size:=World.block_lt_of_cell? w _ h.1.1
theorem zen (v:Value)(xs:List Int)(q:Int)(w:World)(hv:Bs w v xs):
  Calls Tryz.prog 98 #[v,xI q] w fun e w'=>e=.returned (zaG xs q).v∧Below w.heap.size w w':=by
 obtain⟨a,l,c,rfl⟩:=zal hv
 have HV:=xh hv
 have OR:Hid (Own6 (w.alloc (.cells xE 59)) w.heap.size false 0 0 0 0 0):=zar w false 0 0 0 0 0 59 w.heap.size rfl
 have HB:Hid (Below w.heap.size w (w.alloc (.cells xE 59))):=xr.alloc xl _
 clear hv
 obtain⟨V1,hV1⟩:∃V1,w.alloc (.cells xE 59)=V1:=⟨_,rfl⟩
 rw[hV1]at OR HB
 obtain⟨⟨k,q1,e1⟩,g1⟩:∃r,getS xs q 1=r:=⟨_,rfl⟩
 have c1:=xh (zaF (.slice a l c) xs q 1 V1 (zaa HV.out HB.out))
 rw[g1]at c1
 simp only[tri]at c1
 have G1:=xh g1
 clear g1
 go_enter Tryz.func98,Tryz.ntmps98
 go_wp2_with fail
 clear hV1
 refine c1.out.mono ?_
 rintro e w' ⟨rfl,hw⟩
 subst hw
 clear c1
 by_cases h1:e1=0
 ·subst h1
  by_cases hk:k>1
  ·have hk':decide (k>1)=true:=decide_eq_true hk
   have HP:Hid (zaG xs q=.no 4):=by
    show _=_
    unfold zaG
    simp only[zab,if_true,G1.out]
    rw[if_neg (by omega),if_neg (by omega)]
   obtain⟨⟨r0_,r1_,r2_,r3_,r4_,r5_⟩,rf_⟩:=OR.out
   go_wp2_with fail
   have hs:=(OR.out.set false 0 0 0 0 0).1
   have hbs:Below w.heap.size w (xC (V1) w.heap.size xE):=xC6 HB.out xl
   generalize (xC (V1) w.heap.size xE:World)=W5 at*
   obtain⟨s0_,s1_,s2_,s3_,s4_,s5_⟩:=hs
   exact bodyPost_ret (v:=.tuple #[.agg xE,xI 0,xI 4]) (by simp[results,Tryz.results98,go_sem,s0_,s1_,s2_,s3_,s4_,s5_]) rfl ⟨by rw[HP.out];rfl,hbs⟩
  ·have hk':decide (k>1)=false:=decide_eq_false hk
   have HK:Hid (k≤1):=by show _≤_;omega
   have HK0:Hid (0≤k):=by
    have h9:=zop HV.out.1 q 1
    rw[G1.out]at h9
    exact h9
   by_cases hk0:k=0
   ·skip
    obtain rfl:k=0:=hk0
    have OH:=xh (zar V1 true 0 0 0 0 0 59 V1.heap.size rfl)
    have hal:Below V1.heap.size V1 (V1.alloc (.cells (xB true 0 0 0 0 0) 59)):=(Below.refl _ V1).alloc xl _
    have LT:Hid (w.heap.size<V1.heap.size):=OR.out.lt6
    replace OR:=xh (OR.out.below hal)
    replace HB:=xh (HB.out.trans (hal.mono HB.out.size))
    clear hal
    obtain⟨g1,hg⟩:∃g1,V1.heap.size=g1:=⟨_,rfl⟩
    obtain⟨V2,hV2⟩:∃V2,V1.alloc (.cells (xB true 0 0 0 0 0) 59)=V2:=⟨_,rfl⟩
    rw[hV2]at OH OR HB
    rw[hg]at OH LT
    have HV2:=xh hV2
    have HG2:=xh hg
    clear hV2 hg
    obtain⟨⟨id,q2,e2⟩,gg⟩:∃r,getS xs q1 1=r:=⟨_,rfl⟩
    have cc:=xh (zaF (.slice a l c) xs q1 1 V2 (zaa HV.out HB.out))
    rw[gg]at cc
    simp only[tri]at cc
    have G2:=xh gg
    clear gg
    go_wp2_with fail
    simp only[HV2.out,HG2.out]
    refine cc.out.mono ?_
    rintro e w' ⟨rfl,hw⟩
    subst hw
    clear cc
    by_cases h2:e2=0
    ·subst h2
     have OI:=xh (OH.out.seti id)
     have OR1:Hid (Own6 ((V2).setCell (xQ g1 5) (xI id)) w.heap.size false 0 0 0 0 0):=OR.out.onl ((Onl.refl g1 V2).set 5 _) (Nat.ne_of_lt LT.out)
     have HB1:Hid (Below w.heap.size w ((V2).setCell (xQ g1 5) (xI id))):=HB.out.setCell (p:=xQ g1 5) (Nat.le_of_lt LT.out) _
     obtain⟨⟨u0_,u1_,u2_,u3_,u4_,u5_⟩,uf_⟩:=OH.out
     obtain⟨W7,hW7⟩:∃W7,(V2).setCell (xQ g1 5) (xI id)=W7:=⟨_,rfl⟩
     rw[hW7]at OI OR1 HB1
     obtain⟨⟨i0_,i1_,i2_,i3_,i4_,i5_⟩,if_⟩:=OI.out
     go_wp2_with fail
     clear hW7 u0_ u1_ u2_ u3_ u4_ u5_ uf_ i0_ i1_ i2_ i3_ i4_ i5_ if_
     refine(zbm true 0 0 0 0 id _).mono ?_
     rintro e W8 ⟨rfl,hb⟩
     replace OI:=xh (OI.out.below hb)
     replace OR:=xh (OR1.out.below hb)
     replace HB:=xh (HB1.out.trans (hb.mono HB1.out.size))
     clear hb OR1 HB1 OH
     by_cases hok:HtOk true 0 0 0 0 id
     ·have HP:Hid (zaG xs q=⟨true,0,0,0,0,id,q2,0⟩):=by
       show _=_
       simp[zaG,zbg,zab,G1.out,G2.out,hok]
      rw[decide_eq_true hok]
      obtain⟨⟨i0_,i1_,i2_,i3_,i4_,i5_⟩,if_⟩:=OI.out
      obtain⟨⟨r0_,r1_,r2_,r3_,r4_,r5_⟩,rf_⟩:=OR.out
      go_wp2_with fail
      have hs:=(OR.out.set true 0 0 0 0 id).1
      have hbs:Below w.heap.size w (xC (W8) w.heap.size (xB true 0 0 0 0 id)):=xC6 HB.out xl
      generalize (xC (W8) w.heap.size (xB true 0 0 0 0 id):World)=W5 at*
      obtain⟨s0_,s1_,s2_,s3_,s4_,s5_⟩:=hs
      exact bodyPost_ret (v:=.tuple #[.agg (xB true 0 0 0 0 id),xI q2,xI 0]) (by simp[results,Tryz.results98,go_sem,s0_,s1_,s2_,s3_,s4_,s5_]) rfl ⟨by rw[HP.out];rfl,hbs⟩
     ·have HP:Hid (zaG xs q=.no 4):=by
       show _=_
       simp[zaG,zbg,zab,PR.no,G1.out,G2.out,hok]
      rw[decide_eq_false hok]
      obtain⟨⟨r0_,r1_,r2_,r3_,r4_,r5_⟩,rf_⟩:=OR.out
      go_wp2_with fail
      have hs:=(OR.out.set false 0 0 0 0 0).1
      have hbs:Below w.heap.size w (xC (W8) w.heap.size xE):=xC6 HB.out xl
      generalize (xC (W8) w.heap.size xE:World)=W5 at*
      obtain⟨s0_,s1_,s2_,s3_,s4_,s5_⟩:=hs
      exact bodyPost_ret (v:=.tuple #[.agg xE,xI 0,xI 4]) (by simp[results,Tryz.results98,go_sem,s0_,s1_,s2_,s3_,s4_,s5_]) rfl ⟨by rw[HP.out];rfl,hbs⟩
    ·skip
     have h2':(e2 !=0)=true:=by simpa using h2
     have HP:Hid (zaG xs q=.no e2):=by
      show _=_
      simp[zaG,zbg,zab,PR.no,G1.out,G2.out,h2]
     obtain⟨⟨r0_,r1_,r2_,r3_,r4_,r5_⟩,rf_⟩:=OR.out
     go_wp2_with fail
     have hs:=(OR.out.set false 0 0 0 0 0).1
     have hbs:Below w.heap.size w (xC (V2) w.heap.size xE):=xC6 HB.out xl
     generalize (xC (V2) w.heap.size xE:World)=W5 at*
     obtain⟨s0_,s1_,s2_,s3_,s4_,s5_⟩:=hs
     exact bodyPost_ret (v:=.tuple #[.agg xE,xI 0,xI e2]) (by simp[results,Tryz.results98,go_sem,s0_,s1_,s2_,s3_,s4_,s5_]) rfl ⟨by rw[HP.out];rfl,hbs⟩
   ·skip
    obtain rfl:k=1:=by have:=HK.out;have:=HK0.out;omega
    have OH:=xh (zar V1 false 0 0 0 0 0 59 V1.heap.size rfl)
    have hal:Below V1.heap.size V1 (V1.alloc (.cells xE 59)):=(Below.refl _ V1).alloc xl _
    have LT:Hid (w.heap.size<V1.heap.size):=OR.out.lt6
    replace OR:=xh (OR.out.below hal)
    replace HB:=xh (HB.out.trans (hal.mono HB.out.size))
    clear hal
    obtain⟨g1,hg⟩:∃g1,V1.heap.size=g1:=⟨_,rfl⟩
    obtain⟨V2,hV2⟩:∃V2,V1.alloc (.cells xE 59)=V2:=⟨_,rfl⟩
    rw[hV2]at OH OR HB
    rw[hg]at OH LT
    have HV2:=xh hV2
    have HG2:=xh hg
    clear hV2 hg
    obtain⟨⟨t,q2,e2⟩,gg⟩:∃r,zaH xs q1=r:=⟨_,rfl⟩
    have cc:=xh (zdb (.slice a l c) xs q1 V2 (zaa HV.out HB.out))
    rw[gg]at cc
    simp only[tri]at cc
    have G2:=xh gg
    clear gg
    go_wp2_with fail
    simp only[HV2.out,HG2.out]
    refine cc.out.mono ?_
    rintro e w' ⟨rfl,hw⟩
    subst hw
    clear cc
    by_cases h2:e2=0
    ·subst h2
     obtain⟨⟨o,q3,e3⟩,gg⟩:∃r,getS xs q2 1=r:=⟨_,rfl⟩
     have cc:=xh (zaF (.slice a l c) xs q2 1 V2 (zaa HV.out HB.out))
     rw[gg]at cc
     simp only[tri]at cc
     have G3:=xh gg
     clear gg
     go_wp2_with fail
     refine cc.out.mono ?_
     rintro e w' ⟨rfl,hw⟩
     subst hw
     clear cc
     by_cases h3:e3=0
     ·subst h3
      obtain⟨⟨r,q4,e4⟩,gg⟩:∃r,getS xs q3 1=r:=⟨_,rfl⟩
      have cc:=xh (zaF (.slice a l c) xs q3 1 V2 (zaa HV.out HB.out))
      rw[gg]at cc
      simp only[tri]at cc
      have G4:=xh gg
      clear gg
      go_wp2_with fail
      refine cc.out.mono ?_
      rintro e w' ⟨rfl,hw⟩
      subst hw
      clear cc
      by_cases h4:e4=0
      ·subst h4
       obtain⟨⟨d,q5,e5⟩,gg⟩:∃r,zaH xs q4=r:=⟨_,rfl⟩
       have cc:=xh (zdb (.slice a l c) xs q4 V2 (zaa HV.out HB.out))
       rw[gg]at cc
       simp only[tri]at cc
       have G5:=xh gg
       clear gg
       go_wp2_with fail
       refine cc.out.mono ?_
       rintro e w' ⟨rfl,hw⟩
       subst hw
       clear cc
       by_cases h5:e5=0
       ·subst h5
        have OX:=xh (OH.out.set false t o r d 0)
        have hon:Onl g1 V2 (xC (V2) g1 (xB false t o r d 0)):=((((((Onl.refl g1 V2).set 0 _).set 1 _).set 2 _).set 3 _).set 4 _).set 5 _
        have OY:Hid (Own6 (xC (V2) g1 (xB false t o r d 0)) w.heap.size false 0 0 0 0 0):=OR.out.onl hon (Nat.ne_of_lt LT.out)
        have HY:Hid (Below w.heap.size w (xC (V2) g1 (xB false t o r d 0))):=HB.out.trans (hon.below (Nat.le_of_lt LT.out) HB.out.size)
        obtain⟨⟨u0_,u1_,u2_,u3_,u4_,u5_⟩,uf_⟩:=OH.out
        clear hon
        obtain⟨V3,hV3⟩:∃V3,(xC (V2) g1 (xB false t o r d 0):World)=V3:=⟨_,rfl⟩
        rw[hV3]at OX OY HY
        replace OR:=OY
        replace HB:=HY
        replace OH:=OX
        clear OY HY OX
        obtain⟨⟨id,q6,e6⟩,gg⟩:∃r,getS xs q5 1=r:=⟨_,rfl⟩
        have cc:=xh (zaF (.slice a l c) xs q5 1 V3 (zaa HV.out HB.out))
        rw[gg]at cc
        simp only[tri]at cc
        have G6:=xh gg
        clear gg
        go_wp2_with fail
        clear hV3 u0_ u1_ u2_ u3_ u4_ u5_ uf_
        refine cc.out.mono ?_
        rintro e w' ⟨rfl,hw⟩
        subst hw
        clear cc
        by_cases h6:e6=0
        ·subst h6
         have OI:=xh (OH.out.seti id)
         have OR1:Hid (Own6 ((V3).setCell (xQ g1 5) (xI id)) w.heap.size false 0 0 0 0 0):=OR.out.onl ((Onl.refl g1 V3).set 5 _) (Nat.ne_of_lt LT.out)
         have HB1:Hid (Below w.heap.size w ((V3).setCell (xQ g1 5) (xI id))):=HB.out.setCell (p:=xQ g1 5) (Nat.le_of_lt LT.out) _
         obtain⟨⟨u0_,u1_,u2_,u3_,u4_,u5_⟩,uf_⟩:=OH.out
         obtain⟨W7,hW7⟩:∃W7,(V3).setCell (xQ g1 5) (xI id)=W7:=⟨_,rfl⟩
         rw[hW7]at OI OR1 HB1
         obtain⟨⟨i0_,i1_,i2_,i3_,i4_,i5_⟩,if_⟩:=OI.out
         go_wp2_with fail
         clear hW7 u0_ u1_ u2_ u3_ u4_ u5_ uf_ i0_ i1_ i2_ i3_ i4_ i5_ if_
         refine(zbm false t o r d id _).mono ?_
         rintro e W8 ⟨rfl,hb⟩
         replace OI:=xh (OI.out.below hb)
         replace OR:=xh (OR1.out.below hb)
         replace HB:=xh (HB1.out.trans (hb.mono HB1.out.size))
         clear hb OR1 HB1 OH
         by_cases hok:HtOk false t o r d id
         ·have HP:Hid (zaG xs q=⟨false,t,o,r,d,id,q6,0⟩):=by
           show _=_
           simp[zaG,zbg,zab,zaB,G1.out,G2.out,G3.out,G4.out,G5.out,G6.out,hok]
          rw[decide_eq_true hok]
          obtain⟨⟨i0_,i1_,i2_,i3_,i4_,i5_⟩,if_⟩:=OI.out
          obtain⟨⟨r0_,r1_,r2_,r3_,r4_,r5_⟩,rf_⟩:=OR.out
          go_wp2_with fail
          have hs:=(OR.out.set false t o r d id).1
          have hbs:Below w.heap.size w (xC (W8) w.heap.size (xB false t o r d id)):=xC6 HB.out xl
          generalize (xC (W8) w.heap.size (xB false t o r d id):World)=W5 at*
          obtain⟨s0_,s1_,s2_,s3_,s4_,s5_⟩:=hs
          exact bodyPost_ret (v:=.tuple #[.agg (xB false t o r d id),xI q6,xI 0]) (by simp[results,Tryz.results98,go_sem,s0_,s1_,s2_,s3_,s4_,s5_]) rfl ⟨by rw[HP.out];rfl,hbs⟩
         ·have HP:Hid (zaG xs q=.no 4):=by
           show _=_
           simp[zaG,zbg,zab,zaB,PR.no,G1.out,G2.out,G3.out,G4.out,G5.out,G6.out,hok]
          rw[decide_eq_false hok]
          obtain⟨⟨r0_,r1_,r2_,r3_,r4_,r5_⟩,rf_⟩:=OR.out
          go_wp2_with fail
          have hs:=(OR.out.set false 0 0 0 0 0).1
          have hbs:Below w.heap.size w (xC (W8) w.heap.size xE):=xC6 HB.out xl
          generalize (xC (W8) w.heap.size xE:World)=W5 at*
          obtain⟨s0_,s1_,s2_,s3_,s4_,s5_⟩:=hs
          exact bodyPost_ret (v:=.tuple #[.agg xE,xI 0,xI 4]) (by simp[results,Tryz.results98,go_sem,s0_,s1_,s2_,s3_,s4_,s5_]) rfl ⟨by rw[HP.out];rfl,hbs⟩
        ·skip
         have h6':(e6 !=0)=true:=by simpa using h6
         have HP:Hid (zaG xs q=.no e6):=by
          show _=_
          simp[zaG,zbg,zab,zaB,PR.no,G1.out,G2.out,G3.out,G4.out,G5.out,G6.out,h6]
         obtain⟨⟨r0_,r1_,r2_,r3_,r4_,r5_⟩,rf_⟩:=OR.out
         go_wp2_with fail
         have hs:=(OR.out.set false 0 0 0 0 0).1
         have hbs:Below w.heap.size w (xC (V3) w.heap.size xE):=xC6 HB.out xl
         generalize (xC (V3) w.heap.size xE:World)=W5 at*
         obtain⟨s0_,s1_,s2_,s3_,s4_,s5_⟩:=hs
         exact bodyPost_ret (v:=.tuple #[.agg xE,xI 0,xI e6]) (by simp[results,Tryz.results98,go_sem,s0_,s1_,s2_,s3_,s4_,s5_]) rfl ⟨by rw[HP.out];rfl,hbs⟩
       ·skip
        have h5':(e5 !=0)=true:=by simpa using h5
        have HP:Hid (zaG xs q=.no e5):=by
         show _=_
         simp[zaG,zbg,zab,zaB,PR.no,G1.out,G2.out,G3.out,G4.out,G5.out,h5]
        obtain⟨⟨r0_,r1_,r2_,r3_,r4_,r5_⟩,rf_⟩:=OR.out
        go_wp2_with fail
        have hs:=(OR.out.set false 0 0 0 0 0).1
        have hbs:Below w.heap.size w (xC (V2) w.heap.size xE):=xC6 HB.out xl
        generalize (xC (V2) w.heap.size xE:World)=W5 at*
        obtain⟨s0_,s1_,s2_,s3_,s4_,s5_⟩:=hs
        exact bodyPost_ret (v:=.tuple #[.agg xE,xI 0,xI e5]) (by simp[results,Tryz.results98,go_sem,s0_,s1_,s2_,s3_,s4_,s5_]) rfl ⟨by rw[HP.out];rfl,hbs⟩
      ·skip
       have h4':(e4 !=0)=true:=by simpa using h4
       have HP:Hid (zaG xs q=.no e4):=by
        show _=_
        simp[zaG,zbg,zab,zaB,PR.no,G1.out,G2.out,G3.out,G4.out,h4]
       obtain⟨⟨r0_,r1_,r2_,r3_,r4_,r5_⟩,rf_⟩:=OR.out
       go_wp2_with fail
       have hs:=(OR.out.set false 0 0 0 0 0).1
       have hbs:Below w.heap.size w (xC (V2) w.heap.size xE):=xC6 HB.out xl
       generalize (xC (V2) w.heap.size xE:World)=W5 at*
       obtain⟨s0_,s1_,s2_,s3_,s4_,s5_⟩:=hs
       exact bodyPost_ret (v:=.tuple #[.agg xE,xI 0,xI e4]) (by simp[results,Tryz.results98,go_sem,s0_,s1_,s2_,s3_,s4_,s5_]) rfl ⟨by rw[HP.out];rfl,hbs⟩
     ·skip
      have h3':(e3 !=0)=true:=by simpa using h3
      have HP:Hid (zaG xs q=.no e3):=by
       show _=_
       simp[zaG,zbg,zab,zaB,PR.no,G1.out,G2.out,G3.out,h3]
      obtain⟨⟨r0_,r1_,r2_,r3_,r4_,r5_⟩,rf_⟩:=OR.out
      go_wp2_with fail
      have hs:=(OR.out.set false 0 0 0 0 0).1
      have hbs:Below w.heap.size w (xC (V2) w.heap.size xE):=xC6 HB.out xl
      generalize (xC (V2) w.heap.size xE:World)=W5 at*
      obtain⟨s0_,s1_,s2_,s3_,s4_,s5_⟩:=hs
      exact bodyPost_ret (v:=.tuple #[.agg xE,xI 0,xI e3]) (by simp[results,Tryz.results98,go_sem,s0_,s1_,s2_,s3_,s4_,s5_]) rfl ⟨by rw[HP.out];rfl,hbs⟩
    ·skip
     have h2':(e2 !=0)=true:=by simpa using h2
     have HP:Hid (zaG xs q=.no e2):=by
      show _=_
      simp[zaG,zbg,zab,zaB,PR.no,G1.out,G2.out,h2]
     obtain⟨⟨r0_,r1_,r2_,r3_,r4_,r5_⟩,rf_⟩:=OR.out
     go_wp2_with fail
     have hs:=(OR.out.set false 0 0 0 0 0).1
     have hbs:Below w.heap.size w (xC (V2) w.heap.size xE):=xC6 HB.out xl
     generalize (xC (V2) w.heap.size xE:World)=W5 at*
     obtain⟨s0_,s1_,s2_,s3_,s4_,s5_⟩:=hs
     exact bodyPost_ret (v:=.tuple #[.agg xE,xI 0,xI e2]) (by simp[results,Tryz.results98,go_sem,s0_,s1_,s2_,s3_,s4_,s5_]) rfl ⟨by rw[HP.out];rfl,hbs⟩
 ·have h1':(e1 !=0)=true:=by simpa using h1
  have HP:Hid (zaG xs q=.no e1):=by
   show _=_
   have hz:=zoM (xs:=xs) (k:=q) (n:=1) (by rw[G1.out];exact h1)
   rw[G1.out]at hz
   simp only at hz
   subst hz
   unfold zaG
   simp only[zab,if_true,G1.out,if_neg h1]
   unfold zbg
   rw[if_neg h1]
  obtain⟨⟨r0_,r1_,r2_,r3_,r4_,r5_⟩,rf_⟩:=OR.out
  go_wp2_with fail
  have hs:=(OR.out.set false 0 0 0 0 0).1
  have hbs:Below w.heap.size w (xC (V1) w.heap.size xE):=xC6 HB.out xl
  generalize (xC (V1) w.heap.size xE:World)=W5 at*
  obtain⟨s0_,s1_,s2_,s3_,s4_,s5_⟩:=hs
  exact bodyPost_ret (v:=.tuple #[.agg xE,xI 0,xI e1]) (by simp[results,Tryz.results98,go_sem,s0_,s1_,s2_,s3_,s4_,s5_]) rfl ⟨by rw[HP.out];rfl,hbs⟩
end Go.Proofs.YtjghebcnmoojmaaGreat
