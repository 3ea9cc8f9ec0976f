/- thalweglaw09.FrameReads: for any bytes the law answers true; no condition. -/
import Derived.Test.YtjghebcnmoojmaaGreatV53
import Derived.Test.YtjghebcnmoojmaaGreatV54
import Derived.WalkLawsBesides
set_option maxRecDepth 100000
set_option maxHeartbeats 32000000
namespace Go.Proofs.YtjghebcnmoojmaaGreat
open Go.RowKit MX
def ob0:Ob:=⟨1,5,false,0,0,0,0,0,0,0,0,0⟩
def pt0:Pt:=⟨2,0,[],0,[ob0],[],0,0,0,0,⟨#[]⟩⟩
theorem zgj:FrOk 1 0 255 0 [pt0]:=by decide
theorem zln:(frB 1 0 255 0 [pt0]).take 23=[84,1,1,255,0,0,0,0,0,0,0,0,0,25,1,2,0,5,0,0,1,1,5]:=by decide
theorem zog:(frB 1 0 255 0 [pt0]).length=25:=by decide
theorem zos:strOfNums [84,1,1,255,0,0,0,0,0,0,0,0,0,25,1,2,0,5,0,0,1,1,5]=⟨#[84,1,1,255,0,0,0,0,0,0,0,0,0,25,1,2,0,5,0,0,1,1,5]⟩:=by rfl
theorem zfn:∀i,i<[pt0].length→zaR ([pt0].getD i zPt):=fun i hi=>by
 obtain rfl:i=0:=by simpa using hi
 exact zeh (zgj.2.1 0 (by decide))
theorem zoy (w:World):Ps (((w.alloc (.cells (xO 1 5 false 0 0 0 0 0 0 0 0 0) 63)).alloc (.cells #[xI 2,xI 0,xS,xI 0,.slice (some (w.heap.size,0)) 1 1,xS,xI 0,xI 0,xI 0,xI 0,xT] 50)).alloc (.cells (xA 1 0 255 0 (.slice (some (w.heap.size+1,0)) 1 1)) 24)) (.slice (some (w.heap.size+1,0)) [pt0].length 1) [pt0]:=by
 have h1:=World.ownsRow_lit (base:=w.heap.size) (e:=63) (size:=12) w (xO 1 5 false 0 0 0 0 0 0 0 0 0) 1 xl (by unfold maxLen;omega) rfl
 have h2:Os (w.alloc (.cells (xO 1 5 false 0 0 0 0 0 0 0 0 0) 63)) (.slice (some (w.heap.size,0)) 1 1) [ob0]:=(zcA (ys:=[ob0]) h1).1
 let r0:RPt:=⟨2,0,none,0,0,0,some (w.heap.size,0),1,1,none,0,0,0,0,0,0,⟨#[]⟩⟩
 have h3:=World.ownsRow_lit (base:=w.heap.size) (e:=50) (size:=11) (w.alloc (.cells (xO 1 5 false 0 0 0 0 0 0 0 0 0) 63)) r0.cl.toArray 1 (by simp) (by unfold maxLen;omega) rfl
 rw[show(w.alloc (.cells (xO 1 5 false 0 0 0 0 0 0 0 0 0) 63)).heap.size=w.heap.size+1 by simp]at h3
 have hb:Below (w.alloc (.cells (xO 1 5 false 0 0 0 0 0 0 0 0 0) 63)).heap.size (w.alloc (.cells (xO 1 5 false 0 0 0 0 0 0 0 0 0) 63)) ((w.alloc (.cells (xO 1 5 false 0 0 0 0 0 0 0 0 0) 63)).alloc (.cells #[xI 2,xI 0,xS,xI 0,.slice (some (w.heap.size,0)) 1 1,xS,xI 0,xI 0,xI 0,xI 0,xT] 50)):=xr.alloc xl _
 have h4:Ps ((w.alloc (.cells (xO 1 5 false 0 0 0 0 0 0 0 0 0) 63)).alloc (.cells #[xI 2,xI 0,xS,xI 0,.slice (some (w.heap.size,0)) 1 1,xS,xI 0,xI 0,xI 0,xI 0,xT] 50)) (.slice (some (w.heap.size+1,0)) 1 1) [pt0]:=by
  refine⟨[r0],rfl,(zdu (R:=RP) (ys:=[r0]) h3).1,fun i hi=>?_⟩
  obtain rfl:i=0:=by simpa using hi
  exact⟨rfl,rfl,zox _,rfl,h2.below hb,zpx _,rfl,rfl,rfl,rfl,rfl⟩
 exact h4.below (xr.alloc xl _)
theorem zoP (w:World):Calls Tryz.prog 12 #[] w fun e w'=>e=.returned (.bool true)∧Below w.heap.size w w':=by
 have OF:=xh (zav ((w.alloc (.cells (xO 1 5 false 0 0 0 0 0 0 0 0 0) 63)).alloc (.cells #[xI 2,xI 0,xS,xI 0,.slice (some (w.heap.size,0)) 1 1,xS,xI 0,xI 0,xI 0,xI 0,xT] 50)) 1 0 255 0 (.slice (some (w.heap.size+1,0)) 1 1) 24 (w.heap.size+1+1) (by simp))
 have HB:Hid (Below w.heap.size w (((w.alloc (.cells (xO 1 5 false 0 0 0 0 0 0 0 0 0) 63)).alloc (.cells #[xI 2,xI 0,xS,xI 0,.slice (some (w.heap.size,0)) 1 1,xS,xI 0,xI 0,xI 0,xI 0,xT] 50)).alloc (.cells (xA 1 0 255 0 (.slice (some (w.heap.size+1,0)) 1 1)) 24))):=((xr.alloc xl _).alloc (by simp) _).alloc (by simp;omega) _
 have HP:=xh (zoy w)
 have HPF:Hid (frPF (frB 1 0 255 0 [pt0])=.inr ⟨1,0,255,0,[pt0]⟩):=zk7 zgj
 have cB:=fun(W:World) (h:Ps W (.slice (some (w.heap.size+1,0)) [pt0].length 1) [pt0])=>zeZ 1 0 255 0 (some (w.heap.size+1,0)) 1 [pt0] W h zfn
 have hL:frL 1 0 255 0 [pt0]=frB 1 0 255 0 [pt0]:=if_pos zgj
 have hK:frK 1 0 255 0 [pt0]=0:=if_pos zgj
 unfold RetF at cB
 rw[hL,hK]at cB
 have HTK:=xh zln
 have hln:=zog
 generalize frB 1 0 255 0 [pt0]=xs at*
 clear hL hK
 go_enter Tryz.func12,Tryz.ntmps12
 go_upto_region 2 with (fail)
 obtain⟨V0,hV0⟩:∃V0,(((w.alloc (.cells (xO 1 5 false 0 0 0 0 0 0 0 0 0) 63)).alloc (.cells #[xI 2,xI 0,xS,xI 0,.slice (some (w.heap.size,0)) 1 1,xS,xI 0,xI 0,xI 0,xI 0,xT] 50)).alloc (.cells (xA 1 0 255 0 (.slice (some (w.heap.size+1,0)) 1 1)) 24))=V0:=⟨_,rfl⟩
 rw[hV0]at OF HB HP ⊢
 clear hV0
 obtain⟨⟨u0,u1,u2,u3,u4⟩,-⟩:=OF.out
 have cB0:=cB V0 HP.out
 clear cB
 go_wp2_with fail
 refine cB0.mono ?_
 rintro e V1 ⟨⟨a9,c9,rfl,hbs,hlc,-⟩,hb⟩
 rw[hln]at hbs hlc ⊢
 replace OF:=xh (OF.out.below hb)
 replace HB:=xh (HB.out.trans (hb.mono HB.out.size))
 replace HP:=xh (HP.out.below hb)
 have HBS:=xh hbs
 have HLC:Hid (25≤c9):=hlc
 clear hb hbs hlc cB0 u0 u1 u2 u3 u4
 go_wp2_with fail
 refine(zeW (.slice a9 25 c9) xs V1 HBS.out).mono ?_
 rintro e V2 ⟨⟨v,q,rfl,hq⟩,hb⟩
 obtain⟨rfl,a8,c8,rfl,hps⟩:q=0∧∃a8 c8,v=.agg #[xI 1,xI 0,xI 255,xI 0,.slice a8 [pt0].length c8]∧PsOw V2 V1.heap.size (.slice a8 [pt0].length c8) [pt0]:=by
  rcases hq with ⟨h1,_⟩|⟨f,h1,h2,a8,c8,h3,h4⟩
  ·rw[HPF.out]at h1;cases h1
  ·rw[HPF.out]at h1
   simp only[Sum.inr.injEq]at h1
   subst h1
   exact⟨h2,a8,c8,h3,h4⟩
 clear hq
 simp only[List.length_cons,List.length_nil,Nat.reduceAdd]at hps HP ⊢
 have HG:=xh hps.ps
 replace OF:=xh (OF.out.below hb)
 replace HB:=xh (HB.out.trans (hb.mono HB.out.size))
 replace HP:=xh (HP.out.below hb)
 replace HBS:=xh (zaa HBS.out hb)
 clear hb hps
 have hal:=(Below.refl V2.heap.size V2).alloc xl (.cells (xA 1 0 255 0 (.slice a8 1 c8)) 24)
 have OG:=xh (zav V2 1 0 255 0 (.slice a8 1 c8) 24 V2.heap.size rfl)
 replace HG:=xh (HG.out.below hal)
 replace OF:=xh (OF.out.below hal)
 replace HB:=xh (HB.out.trans (hal.mono HB.out.size))
 replace HP:=xh (HP.out.below hal)
 replace HBS:=xh (zaa HBS.out hal)
 clear hal
 go_upto_region 4 with (fail)
 obtain⟨V3,hV3⟩:∃V3,V2.alloc (.cells (xA 1 0 255 0 (.slice a8 1 c8)) 24)=V3:=⟨_,rfl⟩
 rw[hV3]at OG HG OF HB HP HBS ⊢
 clear hV3
 obtain⟨gv,hgv⟩:∃g,V2.heap.size=g:=⟨_,rfl⟩
 rw[hgv]at OG
 try rw[hgv]
 clear hgv
 obtain⟨bb,bo,rfl⟩:∃bb bo,a9=some ⟨bb,bo,none⟩:=by
  rcases HBS.out.2.2 with ⟨a7,c7,e,_,e2⟩|⟨b7,o7,c7,e,_⟩
  ·rw[e2]at hln;simp at hln
  ·simp only[Value.slice.injEq]at e;exact⟨b7,o7,e.1⟩
 have hcv:(convert 26 9 (.slice (some ⟨bb,bo,none⟩) 23 c9)).run Tryz.prog V3=.ok (.string ⟨#[84,1,1,255,0,0,0,0,0,0,0,0,0,25,1,2,0,5,0,0,1,1,5]⟩) V3:=by
  have h:=HBS.out
  rw[←hln]at h
  have h9:Bs V3 (.slice (some ⟨bb,bo,none⟩) 23 c9) (xs.take 23):=by simpa using zcC h 0 23 (by omega) c9 (by have:=HLC.out;omega)
  rw[HTK.out]at h9
  rw[zeq h9,zos]
 have hc9:(23:Int)≤(c9:Int):=by have:=HLC.out;omega
 obtain⟨⟨u0,u1,u2,u3,u4⟩,-⟩:=OF.out
 obtain⟨⟨v0,v1,v2,v3,v4⟩,-⟩:=OG.out
 go_wp2_with fail
 refine(zeU _ _ ⟨1,0,255,0,[pt0]⟩ ⟨1,0,255,0,[pt0]⟩ V3 ⟨_,_,rfl,HP.out⟩ ⟨_,_,rfl,HG.out⟩ ⟨by decide,zfn⟩).mono ?_
 rintro e V4 ⟨⟨b,rfl,hb1⟩,hb⟩
 obtain rfl:b=true:=hb1.2 rfl
 replace OF:=xh (OF.out.below hb)
 replace HB:=xh (HB.out.trans (hb.mono HB.out.size))
 replace HP:=xh (HP.out.below hb)
 clear hb hb1 hcv u0 u1 u2 u3 u4 v0 v1 v2 v3 v4
 obtain⟨⟨u0,u1,u2,u3,u4⟩,-⟩:=OF.out
 go_wp2_with fail
 refine(zhI 1 0 255 0 _ _ [pt0] 2 V4 HP.out zfn).mono ?_
 rw[show decide (FrOk 1 0 255 0 [pt0]∧(1:Int)≠2∧((255:Int)=2∨(255:Int)=255))=true from decide_eq_true ⟨zgj,by decide,by decide⟩]
 rintro e V5 ⟨rfl,hb⟩
 replace OF:=xh (OF.out.below hb)
 replace HB:=xh (HB.out.trans (hb.mono HB.out.size))
 replace HP:=xh (HP.out.below hb)
 clear hb u0 u1 u2 u3 u4
 obtain⟨⟨u0,u1,u2,u3,u4⟩,-⟩:=OF.out
 go_wp2_with fail
 refine(zhI 1 0 255 0 _ _ [pt0] 1 V5 HP.out zfn).mono ?_
 rw[show decide (FrOk 1 0 255 0 [pt0]∧(1:Int)≠1∧((255:Int)=1∨(255:Int)=255))=false from decide_eq_false (fun h=>h.2.1 rfl)]
 rintro e V6 ⟨rfl,hb⟩
 replace HB:=xh (HB.out.trans (hb.mono HB.out.size))
 clear hb u0 u1 u2 u3 u4
 go_wp2_with fail
 go_ret
 exact⟨rfl,HB.out⟩
end Go.Proofs.YtjghebcnmoojmaaGreat
namespace Go.Proofs.YtjghebcnmoojmaaGreat.frameReads
open Go.RowKit MX
open Go.ChangeShapes Go.WideShapes Go.ChangeAt Go.RowKit
open Go.ChangeMaps (open_string shut_string)
set_option linter.unusedVariables false

theorem own:ownKnob Tryz.prog.godebug=none:=by kernel_rfl
theorem zn0:laidOutB Tryz.prog=true:=by kernel_rfl
def zny (k:IntKind)(w:World)(a:Option Addr)(len cap:Nat)(zs:List Int):Prop:=
 (a=none∧len=0∧cap=0∧zs=[])∨
 ∃x,a=some x∧len≤cap∧cap≤maxLen∧zs.length=cap∧(∀i,i<zs.length→w.cell? (x.add i)=some (.int k (zs.getD i 0)))∧∀n∈zs,(Lit.int k n).wf=true
theorem zpY {w:World}{a:Option Addr}{len cap:Nat}{zs:List Int}(h:zny .u8 w a len cap zs):Bs w (.slice a len cap) (zs.take len)∧(zs.take len).length=len:=by
 rcases h with ⟨rfl,rfl,rfl,rfl⟩|⟨x,rfl,hl,hm,hz,hcell,hwz⟩
 ·exact⟨zd0 w,rfl⟩
 ·have hlen:(zs.take len).length=len:=by rw[List.length_take];omega
  refine⟨⟨fun n hn=>?_,by rw[hlen];unfold maxLen at hm;omega,?_⟩,hlen⟩
  ·have:=hwz n (List.take_subset _ _ hn)
   have b:=bounds_u8 this
   omega
  ·by_cases h0:len=0
   ·subst h0;exact .inl ⟨some x,cap,rfl,(fun h=>by cases h),by simp⟩
   ·right
    obtain⟨b,off,spot⟩:=x
    have hc:=hcell 0 (by omega)
    have hspot:spot=none:=by simpa [Addr.add]using World.cell?_spot hc
    subst hspot
    refine⟨b,off,cap,by rw[hlen],by rw[hlen];exact hl,fun i hi=>?_⟩
    have hi':i<len:=by omega
    have:=hcell i (by omega)
    have hadd:(⟨b,off,none⟩:Addr).add i=⟨b,off+i,none⟩:=by unfold Addr.add;split<;>simp_all
    rw[hadd]at this
    rw[this]
    simp[List.getD,hi']
theorem zpC (a0:Option Addr)(len0 cap0:Nat)(w:World)(h:(1500:Int)<(len0:Int)):
  Calls Tryz.prog 4 #[.slice a0 len0 cap0] w fun e w'=>e=.returned (.bool true)∧Below w.heap.size w w':=by
 go_enter Tryz.func4,Tryz.ntmps4
 go_wp2_with fail
 go_ret
 exact⟨rfl,Below.refl _ _⟩
def zl6 (xs:List Int)(q:Int)(f:Fr):Prop:=(frPF xs=.inl q∧f=zFr)∨(frPF xs=.inr f∧q=0)
theorem zh0 {w:World}{S:Nat}{xs:List Int}{v:Value}{q:Int}(h:(frPF xs=.inl q∧FrOw w S v zFr)∨∃f,frPF xs=.inr f∧q=0∧FrOw w S v f):
  ∃(fr ep to pe:Int) (ps:List Pt) (a:Option Addr) (c:Nat),v=.agg (xA fr ep to pe (.slice a ps.length c))∧Ps w (.slice a ps.length c) ps∧zl6 xs q ⟨fr,ep,to,pe,ps⟩:=by
 rcases h with ⟨h1,a,c,h2,h3⟩|⟨f,h1,h2,a,c,h3,h4⟩
 ·exact⟨0,0,0,0,[],a,c,h2,h3.ps,.inl ⟨h1,rfl⟩⟩
 ·exact⟨f.fr,f.ep,f.to,f.pe,f.ps,a,c,h3,h4.ps,.inr ⟨h1,h2⟩⟩
theorem zpw {xs:List Int}{q q':Int}{f f':Fr}(h:zl6 xs q f)(h':zl6 xs q' f'):q'=q∧f'=f:=by
 rcases h with ⟨h1,h2⟩|⟨h1,h2⟩
 ·rcases h' with ⟨g1,g2⟩|⟨g1,_⟩
  ·rw[h1]at g1;cases g1;exact⟨rfl,g2.trans h2.symm⟩
  ·rw[h1]at g1;cases g1
 ·rcases h' with ⟨g1,_⟩|⟨g1,g2⟩
  ·rw[h1]at g1;cases g1
  ·rw[h1]at g1;cases g1;exact⟨g2.trans h2.symm,rfl⟩
theorem zmZ {xs:List Int}{q:Int}{f:Fr}(hx:∀x∈xs,0≤x∧x<256)(h:zl6 xs q f):zoD f:=by
 rcases h with ⟨_,rfl⟩|⟨h,_⟩
 ·exact⟨by decide,fun i hi=>absurd hi (Nat.not_lt_zero _)⟩
 ·have h9:=(zlI hx h).1
  exact⟨by have:=h9.1.2.2.2.2;omega,fun i hi=>zeh (h9.2.1 i hi)⟩
theorem zoc (a0:Option Addr)(len0 cap0:Nat)(w:World)(xs:List Int)(w0:Bs w (.slice a0 len0 cap0) xs)(h:¬(1500:Int)<(len0:Int)):
  Calls Tryz.prog 4 #[.slice a0 len0 cap0] w fun e w'=>e=.returned (.bool true)∧Below w.heap.size w w':=by
 have hl9:xs.length≤1500:=by obtain⟨e,-⟩:=za0 w0;omega
 have HL9:=xh hl9
 have HX:=xh w0.1
 have R0:=xh w0
 have HB:Hid (Below w.heap.size w (w.alloc (.cells #[.slice a0 len0 cap0] 26))):=xr.alloc xl _
 have cO:=zfj w.heap.size [.slice a0 len0 cap0] [xs] (w.alloc (.cells #[.slice a0 len0 cap0] 26)) rfl (zed w [.slice a0 len0 cap0] 26) (fun i hi=>by
  obtain rfl:i=0:=by simpa using hi
  exact zbz w0 _) (by simp;omega) (by simp)
 replace R0:=xh (zaa R0.out HB.out)
 clear w0 hl9
 go_enter Tryz.func4,Tryz.ntmps4
 go_wp2_with fail
 refine cO.mono ?_
 rintro e V1 ⟨r1,rfl,ho,hby,hb⟩
 rw[show([xs]:List (List Int)).flatten=xs by simp]at ho hby
 have R1:=xh (zaq ho hby (by have:=HL9.out;omega))
 replace R0:=xh (zaa R0.out hb)
 replace HB:=xh (HB.out.trans (hb.mono HB.out.size))
 clear hb ho hby cO
 obtain⟨a9,c9,rfl⟩:=zcO R1.out
 have cP:=zeW _ xs V1 R1.out
 go_wp2_with fail
 refine cP.mono ?_
 rintro e V2 ⟨⟨v,q,rfl,hq⟩,hb⟩
 obtain⟨fr,ep,to,pe,ps,a8,c8,rfl,hps,hres⟩:=zh0 hq
 have HRS:=xh hres
 have HP:=xh hps
 replace R0:=xh (zaa R0.out hb)
 replace R1:=xh (zaa R1.out hb)
 replace HB:=xh (HB.out.trans (hb.mono HB.out.size))
 clear hb hq cP hps hres
 have hal:Below V2.heap.size V2 (V2.alloc (.cells (xA fr ep to pe (.slice a8 ps.length c8)) 24)):=(Below.refl _ V2).alloc xl _
 have O2:=xh (zav V2 fr ep to pe (.slice a8 ps.length c8) 24 V2.heap.size rfl)
 replace R0:=xh (zaa R0.out hal)
 replace R1:=xh (zaa R1.out hal)
 replace HP:=xh (HP.out.below hal)
 replace HB:=xh (HB.out.trans (hal.mono HB.out.size))
 clear hal
 obtain⟨g2,hg⟩:∃g2,V2.heap.size=g2:=⟨_,rfl⟩
 obtain⟨U2,hU⟩:∃U2,V2.alloc (.cells (xA fr ep to pe (.slice a8 ps.length c8)) 24)=U2:=⟨_,rfl⟩
 rw[hU]at HB O2 R0 R1 HP
 rw[hg]at O2
 go_upto_region 5 with (fail)
 try rw[hU]
 try rw[hg]
 clear hU hg
 have cQ:=zgG (.slice a0 len0 cap0) xs U2 R0.out (by have:=HL9.out;omega)
 go_wp2_with fail
 refine cQ.mono ?_
 rintro e V3 ⟨⟨v,q',rfl,hq⟩,hb⟩
 obtain⟨fr',ep',to',pe',ps',a7,c7,rfl,hps,hres⟩:=zh0 hq
 obtain⟨rfl,hfe⟩:=zpw HRS.out hres
 simp only[Fr.mk.injEq]at hfe
 obtain⟨rfl,rfl,rfl,rfl,rfl⟩:=hfe
 have HP2:=xh hps
 replace R0:=xh (zaa R0.out hb)
 replace R1:=xh (zaa R1.out hb)
 replace HP:=xh (HP.out.below hb)
 replace O2:=xh (O2.out.below hb)
 replace HB:=xh (HB.out.trans (hb.mono HB.out.size))
 clear hb hq cQ hps hres
 have hal:Below V3.heap.size V3 (V3.alloc (.cells (xA fr' ep' to' pe' (.slice a7 ps'.length c7)) 24)):=(Below.refl _ V3).alloc xl _
 have O3:=xh (zav V3 fr' ep' to' pe' (.slice a7 ps'.length c7) 24 V3.heap.size rfl)
 replace R0:=xh (zaa R0.out hal)
 replace R1:=xh (zaa R1.out hal)
 replace HP:=xh (HP.out.below hal)
 replace O2:=xh (O2.out.below hal)
 replace HP2:=xh (HP2.out.below hal)
 replace HB:=xh (HB.out.trans (hal.mono HB.out.size))
 clear hal
 obtain⟨g3,hg⟩:∃g3,V3.heap.size=g3:=⟨_,rfl⟩
 obtain⟨U3,hU⟩:∃U3,V3.alloc (.cells (xA fr' ep' to' pe' (.slice a7 ps'.length c7)) 24)=U3:=⟨_,rfl⟩
 rw[hU]at HB O3 R0 R1 HP O2 HP2
 rw[hg]at O3
 go_upto_region 6 with (fail)
 try rw[hU]
 try rw[hg]
 clear hU hg
 go_wp2_with fail
 refine(zoP _).mono ?_
 rintro e V4 ⟨rfl,hb⟩
 replace R0:=xh (zaa R0.out hb)
 replace R1:=xh (zaa R1.out hb)
 replace HP:=xh (HP.out.below hb)
 replace O2:=xh (O2.out.below hb)
 replace HP2:=xh (HP2.out.below hb)
 replace O3:=xh (O3.out.below hb)
 replace HB:=xh (HB.out.trans (hb.mono HB.out.size))
 clear hb
 obtain⟨⟨u0,u1,u2,u3,u4⟩,-⟩:=O2.out
 obtain⟨⟨v0,v1,v2,v3,v4⟩,-⟩:=O3.out
 go_wp2_with fail
 clear u0 u1 u2 u3 u4 v0 v1 v2 v3 v4
 refine(zeU _ _ ⟨fr',ep',to',pe',ps'⟩ ⟨fr',ep',to',pe',ps'⟩ V4 ⟨_,_,rfl,HP.out⟩ ⟨_,_,rfl,HP2.out⟩ (zmZ HX.out HRS.out)).mono ?_
 rintro e V5 ⟨⟨b,rfl,hb1⟩,hb⟩
 obtain rfl:b=true:=hb1.2 rfl
 replace R0:=xh (zaa R0.out hb)
 replace R1:=xh (zaa R1.out hb)
 replace HB:=xh (HB.out.trans (hb.mono HB.out.size))
 clear hb hb1
 have hc1:(convert 26 9 (.slice a0 len0 cap0)).run Tryz.prog V5=.ok (.string (strOfNums xs)) V5:=zeq R0.out
 have hc2:(convert 26 9 (.slice a9 xs.length c9)).run Tryz.prog V5=.ok (.string (strOfNums xs)) V5:=zeq R1.out
 go_wp2_with fail
 go_ret
 exact⟨rfl,HB.out⟩
theorem walk (a0:Option Addr)(len0 cap0:Nat)(z0:List Int)(w:World)(w0:zny .u8 w a0 len0 cap0 z0):
  Calls Tryz.prog 4 #[.slice a0 len0 cap0] w fun e w'=>e=.returned (.bool true)∧Below w.heap.size w w':=by
 obtain⟨xs,b0⟩:∃xs,Bs w (.slice a0 len0 cap0) xs:=⟨_,(zpY w0).1⟩
 by_cases h:(1500:Int)<(len0:Int)
 ·exact zpC a0 len0 cap0 w h
 ·exact zoc a0 len0 cap0 w xs b0 h
theorem zoB (os:_root_.Go.Os)(started:os.Started)(H:Type)(enc:TypeId×Value→H):
  ReturnsInHanded {} Tryz.checked os 4 .any (Rows.frameReadsSpec.pre6 enc Tryz.prog Tryz.f4 Rows.frameReadsRow.domain false) (Rows.frameReadsSpec.post enc Tryz.prog Tryz.f4 false true false false):=by
 refine returnsInHanded_of_change (C:=Tryz.checked) own started (by kernel_rfl) Tryz.func4
  (ChangeSpec.witness6 (enc:=enc) (C:=Tryz.checked) false ⟨#[],#[xS],[]⟩ 16 (by kernel_rfl) (by kernel_rfl) (by kernel_rfl) (by kernel_rfl)) ?_
 intro W base args ds gs before hval0 hW hcnd _
 have hval:∀(j:Nat) t v,Tryz.f4.params[j]? =some t→args[j]? =some v→Value.okWide Tryz.prog W .any base t v:=hval0
 have hW':=hW
 obtain⟨p,q,hA0,hV,rfl,hfz,hnd⟩:=hW
 have hA:DataW.TrodAll enc Tryz.prog W 0 (fun _=>true) true Tryz.f4.params.toList args.toList ds p:=hA0
 rw[Tryz.params4]at hA hval
 obtain⟨v0,vs0,e0,ds0,p0,q0,hargs,rfl,rfl,h0,x0⟩:=trodAll_cons hA
 obtain⟨rfl,rfl,rfl⟩:=trodAll_nil x0
 obtain rfl:args=#[v0]:=by cases args;simp_all
 obtain⟨rfl,rfl⟩:=trodVars_none hV
 have k0:=h0
 have lt0:∀x∈p0,x.block<W.heap.size:=by obtain⟨m,hm⟩:=k0;exact DataW.trod_lt m _ _ _ hm
 obtain⟨a0,len0,cap0,rfl⟩:=okWide_slice Tryz.underlying26 (hval 0 26 v0 rfl rfl)
 obtain⟨z0,w0⟩:∃zs,zny .u8 W a0 len0 cap0 zs:=by
  obtain⟨fuel,hf⟩:=h0
  rcases open_ints Tryz.underlying26 Tryz.underlying5 (by kernel_rfl) hf with ⟨hcs,_⟩|⟨x,l,c,zs,hcs,_,hl,hm,hz,_,hcell,hwz⟩
  ·simp[Value.cells]at hcs
   obtain⟨rfl,rfl,rfl⟩:=hcs
   exact⟨[],.inl ⟨rfl,rfl,rfl,rfl⟩⟩
  ·simp[Value.cells]at hcs
   obtain⟨rfl,rfl,rfl⟩:=hcs
   exact⟨zs,.inr ⟨_,rfl,hl,hm,by simpa using hz,hcell,hwz⟩⟩
 clear hA0 hval0
 refine(walk a0 len0 cap0 z0 W w0).mono fun e W' ⟨he,bel⟩=>?_
 subst he
 exact⟨_,rfl,_,_,_,[],_,[],hW',trodAll_mk1 (shut_bool Tryz.underlying4 _),(trodAll_cons_mk (Below.trod zn0 (by kernel_rfl) (of_decide_eq_true (by kernel_rfl)) k0 bel lt0) trodAll_mk0),rfl,bel.frame _,fun h=>by cases h⟩
theorem over:Rows.frameReadsRow.holds Tryz.pinned (OpenSpec.ofChange Rows.frameReadsSpec):=
 OpenClaim.holds_of_wide 4 Tryz.f4 rfl rfl rfl rfl rfl rfl rfl ⟨rfl,rfl,rfl,rfl,rfl⟩ rfl rfl rfl rfl rfl (by kernel_rfl) Tryz.func4 (by kernel_rfl)
  (of_decide_eq_true (by kernel_rfl)) (by unfold Func.isWrapper;first|(rw[if_pos (by decide +kernel)];kernel_rfl)|(rw[if_neg (by decide +kernel)];exact⟨rfl,rfl⟩))
  (fun os started H enc _=>zoB os started H enc)
theorem proved:Rows.FrameReadsSaid:=over
end Go.Proofs.YtjghebcnmoojmaaGreat.frameReads
