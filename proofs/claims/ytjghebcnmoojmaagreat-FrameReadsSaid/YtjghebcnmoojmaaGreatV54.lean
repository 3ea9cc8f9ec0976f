/- A frame out of bytes, as the document says it: -/
import Derived.Test.YtjghebcnmoojmaaGreatV42
import Derived.Test.YtjghebcnmoojmaaGreatV51
set_option maxRecDepth 100000
set_option maxHeartbeats 32000000
namespace Go.Proofs.YtjghebcnmoojmaaGreat
open Go.RowKit MX MR
def NewFV (V:World):Ty:=fun v w=>∃b,v=xP b∧V.heap.size≤b∧OwnF w b 0 0 0 0 xS
theorem NewFV.keeps (V:World)(k:Nat):T3.Keeps (fun _ w w'=>Below w.heap.size w w') k (NewFV V):=fun _ _ _ _ _ ⟨b,h1,h2,h3⟩ hb=>⟨b,h1,h2,h3.below hb⟩
def NewT (S:Nat)(q:Bool)(o:Option Pt):Ty:=fun v w=>∃r:RPt,v=.tuple #[.agg (xR r),.bool q]∧∀p,o=some p→r.Ow w S p
theorem NewT.keeps (S:Nat)(q:Bool)(o:Option Pt)(k:Nat):T3.Keeps (fun _ w w'=>Below w.heap.size w w') k (NewT S q o):=fun _ _ _ _ _ ⟨r,h1,h2⟩ hb=>⟨r,h1,fun p hp=>(h2 p hp).below hb⟩
def NewR (S:Nat)(o:Option Pt):Ty:=fun v w=>∃r:RPt,v=.agg (xR r)∧∀p,o=some p→r.Ow w S p
theorem NewR.keeps (S:Nat)(o:Option Pt)(k:Nat):T3.Keeps (fun _ w w'=>Below w.heap.size w w') k (NewR S o):=fun _ _ _ _ _ ⟨r,h1,h2⟩ hb=>⟨r,h1,fun p hp=>(h2 p hp).below hb⟩
def NewPT (S:Nat):Ty:=fun v w=>∃b,v=xP b∧S≤b∧OwnT w b zR
theorem NewPT.keeps (S:Nat)(k:Nat):T3.Keeps (fun _ w w'=>Below w.heap.size w w') k (NewPT S):=fun _ _ _ _ _ ⟨b,h1,h2,h3⟩ hb=>⟨b,h1,h2,h3.below hb⟩
theorem zgG (v:Value)(xs:List Int)(w:World)(hv:Bs w v xs)(hl:xs.length≤2000):Calls Tryz.prog 19 #[v] w (zoR w xs):=by
 have HX:=xh hv.1
 have HL:=xh hl
 obtain⟨a,l,c,rfl⟩:=zal hv
 obtain⟨rfl,-⟩:=za0 hv
 have OR:Hid (OwnF (w.alloc (.cells xF 24)) w.heap.size 0 0 0 0 xS):=zav w 0 0 0 0 xS 24 w.heap.size rfl
 have HB:Hid (Below w.heap.size w (w.alloc (.cells xF 24))):=xr.alloc xl _
 have HS:Hid ((w.alloc (.cells xF 24)).heap.size=w.heap.size+1):=by show _=_;simp
 have HV:=xh (zaa hv HB.out)
 clear hv hl
 obtain⟨V0,hV0⟩:∃V0,w.alloc (.cells xF 24)=V0:=⟨_,rfl⟩
 rw[hV0]at OR HB HV HS
 have HV0:=xh hV0
 clear hV0
 go_enter Tryz.func19,Tryz.ntmps19
 go_upto_region 1 with (fail)
 rw[HV0.out]
 clear HV0
 obtain⟨⟨u0,u1,u2,u3,u4⟩,uf⟩:=OR.out
 by_cases h17:xs.length<17
 ·have hd:decide ((xs.length:Int)<17)=true:=decide_eq_true (by omega)
  have HC:=xh h17
  clear h17
  go_wp2_with fail
  have hs:=(OR.out.set 0 0 0 0 xS).1
  have hbs:=zaJ (b:=w.heap.size) HB.out xl 0 0 0 0 xS
  generalize (xC V0 w.heap.size xF:World)=W5 at*
  obtain⟨s0_,s1_,s2_,s3_,s4_⟩:=hs
  exact bodyPost_ret (v:=.tuple #[.agg xF,xI 6]) (by simp[results,Tryz.results19,go_sem,s0_,s1_,s2_,s3_,s4_]) rfl ⟨⟨_,_,rfl,.inl ⟨if_pos HC.out,_,_,rfl,zaW _ _⟩⟩,hbs⟩
 have hd:decide ((xs.length:Int)<17)=false:=decide_eq_false (by omega)
 have H17:Hid (17≤xs.length):=by show _≤_;omega
 clear h17
 obtain⟨bb,bo,ha⟩:∃bb bo,a=some ⟨bb,bo,none⟩:=by
  rcases HV.out.2.2 with ⟨a9,c9,e,_,e2⟩|⟨b9,o9,c9,e,_⟩
  ·have h0:=H17.out;rw[e2]at h0;simp at h0
  ·simp only[Value.slice.injEq]at e;exact⟨b9,o9,e.1⟩
 subst ha
 have HCE:Hid (∀i,i<xs.length→V0.cell? ⟨bb,bo+i,none⟩=some (.int .u8 (xs.getD i 0))):=by
  rcases HV.out.2.2 with ⟨a9,c9,e,_,e2⟩|⟨b9,o9,c9,e,_,e3⟩
  ·have h0:=H17.out;rw[e2]at h0;simp at h0
  ·simp only[Value.slice.injEq,Option.some.injEq,Addr.mk.injEq]at e
   obtain⟨⟨rfl,rfl,_⟩,_⟩:=e;exact e3
 have HCC:Hid (xs.length≤c):=by
  rcases HV.out.2.2 with ⟨a9,c9,e,_,e2⟩|⟨b9,o9,c9,e,e4,e3⟩
  ·have h0:=H17.out;rw[e2]at h0;simp at h0
  ·simp only[Value.slice.injEq]at e;rw[e.2.2];exact e4
 obtain⟨x0,hx0⟩:∃x,xs.getD 0 0=x:=⟨_,rfl⟩
 obtain⟨x1,hx1⟩:∃x,xs.getD 1 0=x:=⟨_,rfl⟩
 have q0:V0.cell? ⟨bb,bo,none⟩=some (.int .u8 x0):=by rw[←hx0];exact HCE.out 0 (by have:=H17.out;omega)
 have q1:V0.cell? ⟨bb,bo+1,none⟩=some (.int .u8 x1):=by rw[←hx1];exact HCE.out 1 (by have:=H17.out;omega)
 have HX0:=xh hx0
 have HX1:=xh hx1
 clear hx0 hx1
 have hi0:(0:Nat)<xs.length:=by have:=H17.out;omega
 have hi1:(1:Nat)<xs.length:=by have:=H17.out;omega
 by_cases h84:x0=84∧x1=1
 ·obtain⟨h84,h1⟩:=h84
  have h84':(x0 !=84)=false:=by simpa using h84
  have h1':(x1 !=1)=false:=by simpa using h1
  have HT:Hid (¬(xs.getD 0 0≠84∨xs.getD 1 0≠1)):=by show ¬_;rw[HX0.out,HX1.out];omega
  clear h84 h1
  have c1:=xh (zaF (.slice (some ⟨bb,bo,none⟩) xs.length c) xs 12 2 V0 HV.out)
  rw[show getS xs 12 2=(segN xs 12 2,14,0)from zfl (k:=12) (n:=2) (by decide) (by decide) (by have:=H17.out;omega)]at c1
  obtain⟨g1,hg1⟩:∃g,segN xs 12 2=g:=⟨_,rfl⟩
  rw[hg1]at c1
  simp only[tri]at c1
  have HG1:=xh hg1
  clear hg1 u0 u1 u2 u3 u4 uf
  go_wp2_with fail
  refine c1.out.mono ?_
  rintro e w1 ⟨rfl,rfl⟩
  obtain⟨⟨u0,u1,u2,u3,u4⟩,uf⟩:=OR.out
  have HP0:Hid (frPF xs=if(xs.length:Int)<g1 then .inl 6
   else if g1<(xs.length:Int)then .inl 4
   else if segN xs (xs.length-2) 2≠sumN (xs.take (xs.length-2))then .inl 5
   else match zaw ((xs.drop 15).take (xs.length-17))with
    | none=>.inl 4
    | some ps=>if(ps.length:Int)=xs.getD 14 0∧FrOk (xs.getD 2 0) (segN xs 4 4) (xs.getD 3 0) (segN xs 8 4) ps then .inr ⟨xs.getD 2 0,segN xs 4 4,xs.getD 3 0,segN xs 8 4,ps⟩else .inl 4):=by
   show _=_
   unfold frPF
   rw[if_neg (by have:=H17.out;omega),if_neg HT.out,HG1.out]
   rfl
  clear hd h84' h1' c1 q0 q1 hi0 hi1
  by_cases hgt:(xs.length:Int)<g1
  ·have hd:decide (g1>(xs.length:Int))=true:=decide_eq_true hgt
   have HC:=xh hgt
   clear hgt
   go_wp2_with fail
   have hs:=(OR.out.set 0 0 0 0 xS).1
   have hbs:=zaJ (b:=w.heap.size) HB.out xl 0 0 0 0 xS
   generalize (xC V0 w.heap.size xF:World)=W5 at*
   obtain⟨s0_,s1_,s2_,s3_,s4_⟩:=hs
   exact bodyPost_ret (v:=.tuple #[.agg xF,xI 6]) (by simp[results,Tryz.results19,go_sem,s0_,s1_,s2_,s3_,s4_]) rfl ⟨⟨_,_,rfl,.inl ⟨by rw[HP0.out];exact if_pos HC.out,_,_,rfl,zaW _ _⟩⟩,hbs⟩
  have hd:decide (g1>(xs.length:Int))=false:=decide_eq_false hgt
  by_cases hlt:g1<(xs.length:Int)
  ·have hd2:decide (g1<(xs.length:Int))=true:=decide_eq_true hlt
   have HC:=xh (⟨hgt,hlt⟩:¬(xs.length:Int)<g1∧g1<(xs.length:Int))
   clear hgt hlt
   go_wp2_with fail
   have hs:=(OR.out.set 0 0 0 0 xS).1
   have hbs:=zaJ (b:=w.heap.size) HB.out xl 0 0 0 0 xS
   generalize (xC V0 w.heap.size xF:World)=W5 at*
   obtain⟨s0_,s1_,s2_,s3_,s4_⟩:=hs
   exact bodyPost_ret (v:=.tuple #[.agg xF,xI 4]) (by simp[results,Tryz.results19,go_sem,s0_,s1_,s2_,s3_,s4_]) rfl ⟨⟨_,_,rfl,.inl ⟨by rw[HP0.out,if_neg (by have:=HC.out;omega)];exact if_pos (by have:=HC.out;omega),_,_,rfl,zaW _ _⟩⟩,hbs⟩
  have hd2:decide (g1<(xs.length:Int))=false:=decide_eq_false hlt
  have hge:g1=(xs.length:Int):=by omega
  clear hgt hlt
  obtain⟨m,hm⟩:∃m,xs.length=m+2:=⟨xs.length-2,by have:=H17.out;omega⟩
  have HM:=xh hm
  have c2:=xh (zaF (.slice (some ⟨bb,bo,none⟩) xs.length c) xs m 2 V0 HV.out)
  rw[show getS xs m 2=(segN xs m 2,(m:Int)+2,0)from zfl (k:=m) (n:=2) (by decide) (by decide) (by omega)]at c2
  obtain⟨g2,hg2⟩:∃g,segN xs m 2=g:=⟨_,rfl⟩
  rw[hg2]at c2
  simp only[tri]at c2
  have HG2:=xh hg2
  have hmm:m≤2000:=by have:=HL.out;omega
  have hn2:IntKind.i64.wrap (g1-2)=(m:Int):=by rw[hge,hm,IntKind.wrap_i64];omega
  have HMM:=xh hmm
  have hmc:m≤c:=by have:=HCC.out;omega
  have c3:=xh (zfA (.slice (some ⟨bb,bo,none⟩) m c) (xs.take m) V0 (by simpa using zcC HV.out 0 m (by omega) c hmc))
  obtain⟨g3,hg3⟩:∃g,sumN (xs.take m)=g:=⟨_,rfl⟩
  rw[hg3]at c3
  have HG3:=xh hg3
  clear hg3 hmm
  have HGE:=xh hge
  clear hg2 hm hge
  go_wp2_with fail
  refine c2.out.mono ?_
  rintro e w1 ⟨rfl,rfl⟩
  go_wp2_with fail
  refine c3.out.mono ?_
  rintro e w1 ⟨rfl,rfl⟩
  by_cases hs3:g2=g3
  ·have hs3':(g2 !=g3)=false:=by simpa using hs3
   have HP1:Hid (frPF xs=match zaw ((xs.drop 15).take (m-15))with
    | none=>.inl 4
    | some ps=>if(ps.length:Int)=xs.getD 14 0∧FrOk (xs.getD 2 0) (segN xs 4 4) (xs.getD 3 0) (segN xs 8 4) ps then .inr ⟨xs.getD 2 0,segN xs 4 4,xs.getD 3 0,segN xs 8 4,ps⟩else .inl 4):=by
    show _=_
    have e1:xs.length-2=m:=by have:=HM.out;omega
    have e2:xs.length-17=m-15:=by have:=HM.out;omega
    rw[HP0.out,if_neg (by have:=HGE.out;omega),if_neg (by have:=HGE.out;omega),e1,e2,HG2.out,HG3.out,if_neg (by simp[hs3])]
   have c4:=xh (zaF (.slice (some ⟨bb,bo,none⟩) xs.length c) xs 4 4 V0 HV.out)
   rw[show getS xs 4 4=(segN xs 4 4,8,0)from zfl (k:=4) (n:=4) (by decide) (by decide) (by have:=H17.out;omega)]at c4
   have c5:=xh (zaF (.slice (some ⟨bb,bo,none⟩) xs.length c) xs 8 4 V0 HV.out)
   rw[show getS xs 8 4=(segN xs 8 4,12,0)from zfl (k:=8) (n:=4) (by decide) (by decide) (by have:=H17.out;omega)]at c5
   obtain⟨ep,hep⟩:∃g,segN xs 4 4=g:=⟨_,rfl⟩
   obtain⟨pe,hpe⟩:∃g,segN xs 8 4=g:=⟨_,rfl⟩
   obtain⟨fr,hfr⟩:∃g,xs.getD 2 0=g:=⟨_,rfl⟩
   obtain⟨to,hto⟩:∃g,xs.getD 3 0=g:=⟨_,rfl⟩
   rw[hep,hpe,hfr,hto]at HP1
   rw[hep]at c4
   rw[hpe]at c5
   simp only[tri]at c4 c5
   have bfr:0≤fr∧fr<256:=by rw[←hfr];exact zaQ HX.out (by have:=H17.out;omega)
   have bto:0≤to∧to<256:=by rw[←hto];exact zaQ HX.out (by have:=H17.out;omega)
   have q2:V0.cell? ⟨bb,bo+2,none⟩=some (.int .u8 fr):=by rw[←hfr];exact HCE.out 2 (by have:=H17.out;omega)
   have q3:V0.cell? ⟨bb,bo+3,none⟩=some (.int .u8 to):=by rw[←hto];exact HCE.out 3 (by have:=H17.out;omega)
   have hw2:IntKind.i64.wrap fr=fr:=by rw[IntKind.wrap_i64];omega
   have hw3:IntKind.i64.wrap to=to:=by rw[IntKind.wrap_i64];omega
   have HBF:=xh bfr
   have HBT:=xh bto
   clear hs3 hep hpe hfr hto bfr bto c2 c3
   go_wp2_with fail
   refine c4.out.mono ?_
   rintro e w1 ⟨rfl,rfl⟩
   go_wp2_with fail
   refine c5.out.mono ?_
   rintro e w1 ⟨rfl,rfl⟩
   clear c4 c5
   go_wp2_with fail
   have hi2:(2:Int)<(xs.length:Int):=by have:=H17.out;omega
   have hi3:(3:Int)<(xs.length:Int):=by have:=H17.out;omega
   have kc:∀w',Below V0.heap.size V0 w'→w'.cell? ⟨bb,bo+2,none⟩=some (.int .u8 fr)∧w'.cell? ⟨bb,bo+3,none⟩=some (.int .u8 to):=fun w' h=>⟨(h.cell (World.block_lt_of_cell? _ _ q2)).trans q2,(h.cell (World.block_lt_of_cell? _ _ q3)).trans q3⟩
   refine T3.wp_region_tail (C:=fun w'=>Below V0.heap.size V0 w') (X:=fun _ w w'=>Below w.heap.size w w') (n:=158) 12 (by kernel_rfl) (by kernel_rfl) (by kernel_rfl) (by kernel_rfl) rfl (fun _ w=>Below.refl _ w) xr.drew ?_
   simp only[List.take_succ_cons,List.take_zero,List.drop_succ_cons,List.drop_zero]
   refine T3.w_is (fun _ w=>Below.refl _ w) rfl _ (.inl rfl) (fun ρ w hC hc hfn hf=>by have e0:ρ (.tmp 0)=_:=hf 0 (by decide);(conv=>lhs;simp[execOp,go_sem,hc,e0])) ?_
   refine T3.w_is (fun _ w=>Below.refl _ w) rfl _ (.inl rfl) (fun ρ w hC hc hfn hf=>by have e80:ρ (.tmp 80)=_:=hf 80 (by decide);(conv=>lhs;simp[execOp,go_sem,hc,e80,hi2])) ?_
   refine T3.w_is (fun _ w=>Below.refl _ w) rfl _ (.inl rfl) (fun ρ w hC hc hfn hf=>by have e81:ρ (.tmp 81)=_:=hf 81 (by decide);(conv=>lhs;simp[execOp,go_sem,hc,e81,kc w hC])) ?_
   refine T3.w_is (fun _ w=>Below.refl _ w) rfl _ (.inl rfl) (fun ρ w hC hc hfn hf=>by have e82:ρ (.tmp 82)=_:=hf 82 (by decide);(conv=>lhs;simp[execOp,go_sem,hc,e82,hw2])) ?_
   refine T3.w_is (fun _ w=>Below.refl _ w) rfl _ (.inl rfl) (fun ρ w hC hc hfn hf=>by have e0:ρ (.tmp 0)=_:=hf 0 (by decide);(conv=>lhs;simp[execOp,go_sem,hc,e0])) ?_
   refine T3.w_is (fun _ w=>Below.refl _ w) rfl _ (.inl rfl) (fun ρ w hC hc hfn hf=>by have e84:ρ (.tmp 84)=_:=hf 84 (by decide);(conv=>lhs;simp[execOp,go_sem,hc,e84,hi3])) ?_
   refine T3.w_is (fun _ w=>Below.refl _ w) rfl _ (.inl rfl) (fun ρ w hC hc hfn hf=>by have e85:ρ (.tmp 85)=_:=hf 85 (by decide);(conv=>lhs;simp[execOp,go_sem,hc,e85,kc w hC])) ?_
   refine T3.w_is (fun _ w=>Below.refl _ w) rfl _ (.inl rfl) (fun ρ w hC hc hfn hf=>by have e86:ρ (.tmp 86)=_:=hf 86 (by decide);(conv=>lhs;simp[execOp,go_sem,hc,e86,hw3])) ?_
   refine T3.w_is (fun _ w=>Below.refl _ w) rfl _ (.inl rfl) (fun ρ w hC hc hfn hf=>by have e10:ρ (.tmp 10)=_:=hf 10 (by decide);(conv=>lhs;simp[execOp,go_sem,hc,e10])) ?_
   refine T3.w_is (fun _ w=>Below.refl _ w) rfl _ (.inl rfl) (fun ρ w hC hc hfn hf=>by have e13:ρ (.tmp 13)=_:=hf 13 (by decide);(conv=>lhs;simp[execOp,go_sem,hc,e13])) ?_
   refine T3.w_is (fun _ w=>Below.refl _ w) rfl _ (.inl rfl) (fun ρ w hC hc hfn hf=>by have e83:ρ (.tmp 83)=_:=hf 83 (by decide);have e87:ρ (.tmp 87)=_:=hf 87 (by decide);have e88:ρ (.tmp 88)=_:=hf 88 (by decide);have e89:ρ (.tmp 89)=_:=hf 89 (by decide);(conv=>lhs;simp[execOp,go_sem,hc,e83,e87,e88,e89])) ?_
   refine T3.w_make rfl (NewFV V0) (NewFV.keeps V0 11) (.inl rfl) (fun ρ w hC hc hfn hf=>by exact⟨_,_,by (conv=>lhs;simp[execOp,go_sem]),hC.alloc hC.size _,xr.alloc xl _,⟨_,rfl,hC.size,zav w 0 0 0 0 xS 24 _ rfl⟩⟩) ?_
   intro A V5 hC hn hd hf
   obtain⟨ga,y16,hga,KW⟩:=(show NewFV V0 (A.eval (.tmp 16)) V5 from hf 16)
   have y0:=yA (hf 0)
   have y1:=yA (hf 1)
   have y2:=yA (hf 2)
   have y3:=yA (hf 3)
   have y4:=yA (hf 4)
   have y5:=yA (hf 5)
   have y6:=yA (hf 6)
   have y7:=yA (hf 7)
   have y8:=yA (hf 8)
   have y9:=yA (hf 9)
   have y10:=yA (hf 10)
   have y11:=yA (hf 11)
   have y12:=yA (hf 12)
   have y13:=yA (hf 13)
   have y14:=yA (hf 14)
   have y15:=yA (hf 15)
   have y17:=yA (hf 17)
   have y18:=yA (hf 18)
   have y19:=yA (hf 19)
   have y20:=yA (hf 20)
   have y21:=yA (hf 21)
   have y22:=yA (hf 22)
   have y23:=yA (hf 23)
   have y24:=yA (hf 24)
   have y25:=yA (hf 25)
   have y26:=yA (hf 26)
   have y27:=yA (hf 27)
   have y28:=yA (hf 28)
   have y29:=yA (hf 29)
   have y30:=yA (hf 30)
   have y31:=yA (hf 31)
   have y32:=yA (hf 32)
   have y33:=yA (hf 33)
   have y34:=yA (hf 34)
   have y35:=yA (hf 35)
   have y36:=yA (hf 36)
   have y37:=yA (hf 37)
   have y38:=yA (hf 38)
   have y39:=yA (hf 39)
   have y40:=yA (hf 40)
   have y41:=yA (hf 41)
   have y42:=yA (hf 42)
   have y43:=yA (hf 43)
   have y44:=yA (hf 44)
   have y45:=yA (hf 45)
   have y46:=yA (hf 46)
   have y47:=yA (hf 47)
   have y48:=yA (hf 48)
   have y49:=yA (hf 49)
   have y50:=yA (hf 50)
   have y51:=yA (hf 51)
   have y52:=yA (hf 52)
   have y53:=yA (hf 53)
   have y54:=yA (hf 54)
   have y55:=yA (hf 55)
   have y56:=yA (hf 56)
   have y57:=yA (hf 57)
   have y58:=yA (hf 58)
   have y59:=yA (hf 59)
   have y60:=yA (hf 60)
   have y61:=yA (hf 61)
   have y62:=yA (hf 62)
   have y63:=yA (hf 63)
   have y64:=yA (hf 64)
   have y65:=yA (hf 65)
   have y66:=yA (hf 66)
   have y67:=yA (hf 67)
   have y68:=yA (hf 68)
   have y69:=yA (hf 69)
   have y70:=yA (hf 70)
   have y71:=yA (hf 71)
   have y72:=yA (hf 72)
   have y73:=yA (hf 73)
   have y74:=yA (hf 74)
   have y75:=yA (hf 75)
   have y76:=yA (hf 76)
   have y77:=yA (hf 77)
   have y78:=yA (hf 78)
   have y79:=yA (hf 79)
   have y80:=yB (hf 80)
   have y81:=yB (hf 81)
   have y82:=yB (hf 82)
   have y83:=yB (hf 83)
   have y84:=yB (hf 84)
   have y85:=yB (hf 85)
   have y86:=yB (hf 86)
   have y87:=yB (hf 87)
   have y88:=yB (hf 88)
   have y89:=yB (hf 89)
   have y90:=yB (hf 90)
   have y91:=yA (hf 91)
   have y92:=yA (hf 92)
   have y93:=yA (hf 93)
   have y94:=yA (hf 94)
   have y95:=yA (hf 95)
   have y96:=yA (hf 96)
   have y97:=yA (hf 97)
   have y98:=yA (hf 98)
   have y99:=yA (hf 99)
   have y100:=yA (hf 100)
   have y101:=yA (hf 101)
   have y102:=yA (hf 102)
   have y103:=yA (hf 103)
   have y104:=yA (hf 104)
   have y105:=yA (hf 105)
   have y106:=yA (hf 106)
   have y107:=yA (hf 107)
   have y108:=yA (hf 108)
   have y109:=yA (hf 109)
   have y110:=yA (hf 110)
   have y111:=yA (hf 111)
   have y112:=yA (hf 112)
   have y113:=yA (hf 113)
   have y114:=yA (hf 114)
   have y115:=yA (hf 115)
   have y116:=yA (hf 116)
   have y117:=yA (hf 117)
   have y118:=yA (hf 118)
   have y119:=yA (hf 119)
   have y120:=yA (hf 120)
   have y121:=yA (hf 121)
   have y122:=yA (hf 122)
   have y123:=yA (hf 123)
   have y124:=yA (hf 124)
   have y125:=yA (hf 125)
   have y126:=yA (hf 126)
   have y127:=yA (hf 127)
   have y128:=yA (hf 128)
   have y129:=yA (hf 129)
   have y130:=yA (hf 130)
   have y131:=yA (hf 131)
   have y132:=yA (hf 132)
   have y133:=yA (hf 133)
   have y134:=yA (hf 134)
   have y135:=yA (hf 135)
   have y136:=yA (hf 136)
   have y137:=yA (hf 137)
   have y138:=yA (hf 138)
   have y139:=yA (hf 139)
   have y140:=yA (hf 140)
   have y141:=yA (hf 141)
   have y142:=yA (hf 142)
   have y143:=yA (hf 143)
   have y144:=yA (hf 144)
   have y145:=yA (hf 145)
   have y146:=yA (hf 146)
   have y147:=yA (hf 147)
   have y148:=yA (hf 148)
   have y149:=yA (hf 149)
   have y150:=yA (hf 150)
   have y151:=yA (hf 151)
   have y152:=yA (hf 152)
   have y153:=yA (hf 153)
   have y154:=yA (hf 154)
   have y155:=yA (hf 155)
   have y156:=yA (hf 156)
   have y157:=yA (hf 157)
   clear hf
   have hA:=zaL hn
   rw[show List.range 158=[0,1,2,3,4,5,6,7,8,9,10,11,12,13,14,15,16,17,18,19,20,21,22,23,24,25,26,27,28,29,30,31,32,33,34,35,36,37,38,39,40,41,42,43,44,45,46,47,48,49,50,51,52,53,54,55,56,57,58,59,60,61,62,63,64,65,66,67,68,69,70,71,72,73,74,75,76,77,78,79,80,81,82,83,84,85,86,87,88,89,90,91,92,93,94,95,96,97,98,99,100,101,102,103,104,105,106,107,108,109,110,111,112,113,114,115,116,117,118,119,120,121,122,123,124,125,126,127,128,129,130,131,132,133,134,135,136,137,138,139,140,141,142,143,144,145,146,147,148,149,150,151,152,153,154,155,156,157]from rfl,hd]at hA
   simp only[List.map_cons,List.map_nil,y0,y1,y2,y3,y4,y5,y6,y7,y8,y9,y10,y11,y12,y13,y14,y15,y16,y17,y18,y19,y20,y21,y22,y23,y24,y25,y26,y27,y28,y29,y30,y31,y32,y33,y34,y35,y36,y37,y38,y39,y40,y41,y42,y43,y44,y45,y46,y47,y48,y49,y50,y51,y52,y53,y54,y55,y56,y57,y58,y59,y60,y61,y62,y63,y64,y65,y66,y67,y68,y69,y70,y71,y72,y73,y74,y75,y76,y77,y78,y79,y80,y81,y82,y83,y84,y85,y86,y87,y88,y89,y90,y91,y92,y93,y94,y95,y96,y97,y98,y99,y100,y101,y102,y103,y104,y105,y106,y107,y108,y109,y110,y111,y112,y113,y114,y115,y116,y117,y118,y119,y120,y121,y122,y123,y124,y125,y126,y127,y128,y129,y130,y131,y132,y133,y134,y135,y136,y137,y138,y139,y140,y141,y142,y143,y144,y145,y146,y147,y148,y149,y150,y151,y152,y153,y154,y155,y156,y157]at hA
   clear y0 y1 y2 y3 y4 y5 y6 y7 y8 y9 y10 y11 y12 y13 y14 y15 y16 y17 y18 y19 y20 y21 y22 y23 y24 y25 y26 y27 y28 y29 y30 y31 y32 y33 y34 y35 y36 y37 y38 y39 y40 y41 y42 y43 y44 y45 y46 y47 y48 y49 y50 y51 y52 y53 y54 y55 y56 y57 y58 y59 y60 y61 y62 y63 y64 y65 y66 y67 y68 y69 y70 y71 y72 y73 y74 y75 y76 y77 y78 y79 y80 y81 y82 y83 y84 y85 y86 y87 y88 y89 y90 y91 y92 y93 y94 y95 y96 y97 y98 y99 y100 y101 y102 y103 y104 y105 y106 y107 y108 y109 y110 y111 y112 y113 y114 y115 y116 y117 y118 y119 y120 y121 y122 y123 y124 y125 y126 y127 y128 y129 y130 y131 y132 y133 y134 y135 y136 y137 y138 y139 y140 y141 y142 y143 y144 y145 y146 y147 y148 y149 y150 y151 y152 y153 y154 y155 y156 y157
   clear hn hd
   subst hA
   have HOF:=xh (KW.set fr ep to pe xS)
   have hb6:Below V0.heap.size V0 (xC V5 ga (xA fr ep to pe xS)):=zaJ hC hga fr ep to pe xS
   have HGA:Hid (w.heap.size<ga∧V0.heap.size≤ga):=⟨by have:=HS.out;omega,hga⟩
   have HSZ:Hid (ga+1≤((xC V5 ga (xA fr ep to pe xS) : World)).heap.size):=by have:=HOF.out.lt;exact this
   obtain⟨⟨t0,t1,t2,t3,t4⟩,tf⟩:=KW
   obtain⟨V6,hV6⟩:∃V6,(xC V5 ga (xA fr ep to pe xS):World)=V6:=⟨_,rfl⟩
   rw[hV6]at HOF hb6 HSZ
   have HB6:=xh hb6
   have h15:(15:Int)≤(m:Int):=by have:=HM.out;have:=H17.out;omega
   have hmc':(m:Int)≤(c:Int):=by omega
   have htn:((m:Int)).toNat=m:=Int.toNat_natCast m
   obtain⟨r0,hr0⟩:∃r0,(xs.drop 15).take (m-15)=r0:=⟨_,rfl⟩
   obtain⟨A9,hA9⟩:∃A9,(if c=15 then(some ⟨bb,bo,none⟩:Option Addr)else some ⟨bb,bo+15,none⟩)=A9:=⟨_,rfl⟩
   have hlr:r0.length=m-15:=by rw[←hr0,List.length_take,List.length_drop];have:=HM.out;omega
   have HR9:Hid (Bs V0 (.slice A9 r0.length (c-15)) r0):=by
    show Bs _ _ _
    rw[hlr,←hA9,←hr0]
    exact zcY HV.out 15 (m-15) (by have:=HM.out;omega) HCC.out
   rw[hr0]at HP1
   have hlr':m-15=r0.length:=hlr.symm
   have HLR:Hid (r0.length≤1985):=by show _≤_;have:=HMM.out;omega
   clear hlr hr0 hga hC hb6 q2 q3 u0 u1 u2 u3 u4 uf hw2 hw3 hi2 hi3 kc hd hd2 hs3'
   go_wp2_with fail
   clear t0 t1 t2 t3 t4 tf hV6 hA9 h15 hmc' htn hlr' hn2 hmc
   have HNO:Hid (zaw r0=none→frPF xs=.inl 4):=fun h=>by rw[HP1.out,h]
   go_loopw [17] (fun u wr=>∃(r:List Int) (acc:List Pt) (A:Option Addr) (cp:Nat) (va:Value),u=.slice A r.length cp∧Bs V0 (.slice A r.length cp) r∧OwnF wr ga fr ep to pe va∧PsOw wr (ga+1) va acc∧zaw r0=(zaw r).map (fun l=>acc++l)∧(∀i,i<acc.length→zaR (acc.getD i zPt))∧3*acc.length+r.length≤r0.length∧ga+1≤wr.heap.size∧Below ga V6 wr) (fun u _=>(match u with|.slice _ n _=>n|_=>0))
   case atStart=>exact⟨r0,[],A9,c-15,_,rfl,HR9.out,HOF.out,zaW _ _,by cases zaw r0<;>rfl,fun i hi=>absurd hi (by simp),by simp,HSZ.out,Below.refl _ _⟩
   case round=>
    obtain⟨r,acc,A,cp,va,rfl,hbr,hof,hps,hrd,hfw,hln,hsz,hbel⟩:=hrel
    have HRR:=xh ((OR.out.below HB6.out).low HGA.out.1 hbel)
    have HVW:Hid (Bs wr (.slice (some ⟨bb,bo,none⟩) xs.length c) xs):=zaa HV.out (HB6.out.trans (hbel.mono HGA.out.2))
    have HBW:Hid (Below w.heap.size w wr):=HB.out.trans ((HB6.out.trans (hbel.mono HGA.out.2)).mono HB.out.size)
    have HW:=xh hbel
    have HB0:=xh hbr
    have HBR:Hid (Bs wr (.slice A r.length cp) r):=zaa hbr (HB6.out.trans (hbel.mono HGA.out.2))
    have HV0W:Hid (Below V0.heap.size V0 wr):=HB6.out.trans (hbel.mono HGA.out.2)
    have OO:=xh hof
    have OPS:=xh hps
    have HRD:=xh hrd
    have HFW:=xh hfw
    have HLN:=xh hln
    have HSW:=xh hsz
    clear hbel hof hps hrd hfw hln hsz hbr
    obtain⟨⟨z0,z1,z2,z3,z4⟩,zf⟩:=HRR.out
    by_cases hlt:0<r.length
    ·have hgt:(0:Int)<(r.length:Int):=by omega
     by_cases h3:r.length<3
     ·have hd3:decide ((r.length:Int)<3)=true:=decide_eq_true (by omega)
      have HN:Hid (frPF xs=.inl 4):=HNO.out (by rw[HRD.out,zcq (by omega) h3];rfl)
      clear h3
      go_wp2_with fail
      have hs:=(HRR.out.set 0 0 0 0 xS).1
      have hbs:=zaJ (b:=w.heap.size) HBW.out xl 0 0 0 0 xS
      generalize (xC wr w.heap.size xF:World)=W5 at*
      obtain⟨s0_,s1_,s2_,s3_,s4_⟩:=hs
      exact bodyPost_ret (v:=.tuple #[.agg xF,xI 4]) (by simp[results,Tryz.results19,go_sem,s0_,s1_,s2_,s3_,s4_]) rfl ⟨⟨_,_,rfl,.inl ⟨HN.out,_,_,rfl,zaW _ _⟩⟩,hbs⟩
     ·have hd3:decide ((r.length:Int)<3)=false:=decide_eq_false (by omega)
      have H3:Hid (3≤r.length):=by show _≤_;omega
      clear h3
      obtain⟨b1,o1,hA1⟩:∃b1 o1,A=some ⟨b1,o1,none⟩:=by
       rcases HBR.out.2.2 with ⟨a9,c9,e,_,e2⟩|⟨b9,o9,c9,e,_⟩
       ·have h0:=H3.out;rw[e2]at h0;simp at h0
       ·simp only[Value.slice.injEq]at e;exact⟨b9,o9,e.1⟩
      subst hA1
      have HRC:Hid (r.length≤cp∧∀i,i<r.length→wr.cell? ⟨b1,o1+i,none⟩=some (.int .u8 (r.getD i 0))):=by
       rcases HBR.out.2.2 with ⟨a9,c9,e,_,e2⟩|⟨b9,o9,c9,e,e4,e3⟩
       ·have h0:=H3.out;rw[e2]at h0;simp at h0
       ·simp only[Value.slice.injEq,Option.some.injEq,Addr.mk.injEq]at e
        obtain⟨⟨rfl,rfl,_⟩,_,rfl⟩:=e;exact⟨e4,e3⟩
      obtain⟨y1,hy1⟩:∃x,r.getD 1 0=x:=⟨_,rfl⟩
      obtain⟨y2,hy2⟩:∃x,r.getD 2 0=x:=⟨_,rfl⟩
      obtain⟨z,hz⟩:∃z,szR r=z:=⟨_,rfl⟩
      have by1:0≤y1∧y1<256:=by rw[←hy1];exact zaQ HBR.out.1 (by have:=H3.out;omega)
      have by2:0≤y2∧y2<256:=by rw[←hy2];exact zaQ HBR.out.1 (by have:=H3.out;omega)
      have hzz:256*y1+y2=(z:Int):=by rw[←hz,←hy1,←hy2];unfold szR;rw[hy1,hy2];omega
      have q1:wr.cell? ⟨b1,o1+1,none⟩=some (.int .u8 y1):=by rw[←hy1];exact HRC.out.2 1 (by have:=H3.out;omega)
      have q2:wr.cell? ⟨b1,o1+2,none⟩=some (.int .u8 y2):=by rw[←hy2];exact HRC.out.2 2 (by have:=H3.out;omega)
      have hw1:IntKind.i64.wrap y1=y1:=by rw[IntKind.wrap_i64];omega
      have hw2:IntKind.i64.wrap y2=y2:=by rw[IntKind.wrap_i64];omega
      have hw3:IntKind.i64.wrap (256*y1)=256*y1:=by rw[IntKind.wrap_i64];omega
      have hw4:IntKind.i64.wrap (256*y1+y2)=(z:Int):=by rw[IntKind.wrap_i64];omega
      have hi1:(1:Int)<(r.length:Int):=by have:=H3.out;omega
      have hi2:(2:Int)<(r.length:Int):=by have:=H3.out;omega
      have hw5:IntKind.i64.wrap ((r.length:Int)-3)=(r.length:Int)-3:=by rw[IntKind.wrap_i64];have:=HLN.out;have:=HLR.out;omega
      have HZ:=xh hz
      have kc:∀w',Below wr.heap.size wr w'→w'.cell? ⟨b1,o1+1,none⟩=some (.int .u8 y1)∧w'.cell? ⟨b1,o1+2,none⟩=some (.int .u8 y2):=fun w' h=>⟨(h.cell (World.block_lt_of_cell? _ _ q1)).trans q1,(h.cell (World.block_lt_of_cell? _ _ q2)).trans q2⟩
      clear hy1 hy2 hz by1 by2 hzz
      go_wp2_with fail
      refine zaf (C:=fun w'=>Below wr.heap.size wr w') (X:=fun w w'=>Below w.heap.size w w') (n:=158) (by kernel_rfl) (by kernel_rfl) rfl (fun w=>Below.refl _ w) xr.drew ?_
      refine wA 17 ?_
      refine wD 102 hi1 ?_
      refine wC 103 kc ?_
      refine wD 104 hw1 ?_
      refine wD 105 hw3 ?_
      refine wA 17 ?_
      refine wD 107 hi2 ?_
      refine wC 108 kc ?_
      refine wD 109 hw2 ?_
      refine wE 106 110 hw4 ?_
      refine wA 111 ?_
      intro A W4 hC hn hd hf
      have y0:=yA (hf 0)
      have y1:=yA (hf 1)
      have y2:=yA (hf 2)
      have y3:=yA (hf 3)
      have y4:=yA (hf 4)
      have y5:=yA (hf 5)
      have y6:=yA (hf 6)
      have y7:=yA (hf 7)
      have y8:=yA (hf 8)
      have y9:=yA (hf 9)
      have y10:=yA (hf 10)
      have y11:=yA (hf 11)
      have y12:=yA (hf 12)
      have y13:=yA (hf 13)
      have y14:=yA (hf 14)
      have y15:=yA (hf 15)
      have y16:=yA (hf 16)
      have y17:=yA (hf 17)
      have y18:=yB (hf 18)
      have y19:=yA (hf 19)
      have y20:=yA (hf 20)
      have y21:=yA (hf 21)
      have y22:=yA (hf 22)
      have y23:=yA (hf 23)
      have y24:=yA (hf 24)
      have y25:=yA (hf 25)
      have y26:=yA (hf 26)
      have y27:=yA (hf 27)
      have y28:=yA (hf 28)
      have y29:=yA (hf 29)
      have y30:=yA (hf 30)
      have y31:=yA (hf 31)
      have y32:=yA (hf 32)
      have y33:=yA (hf 33)
      have y34:=yA (hf 34)
      have y35:=yA (hf 35)
      have y36:=yA (hf 36)
      have y37:=yA (hf 37)
      have y38:=yA (hf 38)
      have y39:=yA (hf 39)
      have y40:=yA (hf 40)
      have y41:=yA (hf 41)
      have y42:=yA (hf 42)
      have y43:=yA (hf 43)
      have y44:=yA (hf 44)
      have y45:=yA (hf 45)
      have y46:=yA (hf 46)
      have y47:=yA (hf 47)
      have y48:=yA (hf 48)
      have y49:=yA (hf 49)
      have y50:=yA (hf 50)
      have y51:=yA (hf 51)
      have y52:=yA (hf 52)
      have y53:=yA (hf 53)
      have y54:=yA (hf 54)
      have y55:=yA (hf 55)
      have y56:=yA (hf 56)
      have y57:=yA (hf 57)
      have y58:=yA (hf 58)
      have y59:=yA (hf 59)
      have y60:=yA (hf 60)
      have y61:=yA (hf 61)
      have y62:=yA (hf 62)
      have y63:=yA (hf 63)
      have y64:=yA (hf 64)
      have y65:=yA (hf 65)
      have y66:=yA (hf 66)
      have y67:=yA (hf 67)
      have y68:=yA (hf 68)
      have y69:=yA (hf 69)
      have y70:=yA (hf 70)
      have y71:=yA (hf 71)
      have y72:=yA (hf 72)
      have y73:=yA (hf 73)
      have y74:=yA (hf 74)
      have y75:=yA (hf 75)
      have y76:=yA (hf 76)
      have y77:=yA (hf 77)
      have y78:=yA (hf 78)
      have y79:=yA (hf 79)
      have y80:=yA (hf 80)
      have y81:=yA (hf 81)
      have y82:=yA (hf 82)
      have y83:=yA (hf 83)
      have y84:=yA (hf 84)
      have y85:=yA (hf 85)
      have y86:=yA (hf 86)
      have y87:=yA (hf 87)
      have y88:=yA (hf 88)
      have y89:=yA (hf 89)
      have y90:=yA (hf 90)
      have y91:=yA (hf 91)
      have y92:=yA (hf 92)
      have y93:=yA (hf 93)
      have y94:=yA (hf 94)
      have y95:=yA (hf 95)
      have y96:=yA (hf 96)
      have y97:=yA (hf 97)
      have y98:=yA (hf 98)
      have y99:=yA (hf 99)
      have y100:=yA (hf 100)
      have y101:=yA (hf 101)
      have y102:=yB (hf 102)
      have y103:=yB (hf 103)
      have y104:=yB (hf 104)
      have y105:=yB (hf 105)
      have y106:=yB (hf 106)
      have y107:=yB (hf 107)
      have y108:=yB (hf 108)
      have y109:=yB (hf 109)
      have y110:=yB (hf 110)
      have y111:=yB (hf 111)
      have y112:=yA (hf 112)
      have y113:=yA (hf 113)
      have y114:=yA (hf 114)
      have y115:=yA (hf 115)
      have y116:=yA (hf 116)
      have y117:=yA (hf 117)
      have y118:=yA (hf 118)
      have y119:=yA (hf 119)
      have y120:=yA (hf 120)
      have y121:=yA (hf 121)
      have y122:=yA (hf 122)
      have y123:=yA (hf 123)
      have y124:=yA (hf 124)
      have y125:=yA (hf 125)
      have y126:=yA (hf 126)
      have y127:=yA (hf 127)
      have y128:=yA (hf 128)
      have y129:=yA (hf 129)
      have y130:=yA (hf 130)
      have y131:=yA (hf 131)
      have y132:=yA (hf 132)
      have y133:=yA (hf 133)
      have y134:=yA (hf 134)
      have y135:=yA (hf 135)
      have y136:=yA (hf 136)
      have y137:=yA (hf 137)
      have y138:=yA (hf 138)
      have y139:=yA (hf 139)
      have y140:=yA (hf 140)
      have y141:=yA (hf 141)
      have y142:=yA (hf 142)
      have y143:=yA (hf 143)
      have y144:=yA (hf 144)
      have y145:=yA (hf 145)
      have y146:=yA (hf 146)
      have y147:=yA (hf 147)
      have y148:=yA (hf 148)
      have y149:=yA (hf 149)
      have y150:=yA (hf 150)
      have y151:=yA (hf 151)
      have y152:=yA (hf 152)
      have y153:=yA (hf 153)
      have y154:=yA (hf 154)
      have y155:=yA (hf 155)
      have y156:=yA (hf 156)
      have y157:=yA (hf 157)
      clear hf
      have hA:=zaL hn
      rw[show List.range 158=[0,1,2,3,4,5,6,7,8,9,10,11,12,13,14,15,16,17,18,19,20,21,22,23,24,25,26,27,28,29,30,31,32,33,34,35,36,37,38,39,40,41,42,43,44,45,46,47,48,49,50,51,52,53,54,55,56,57,58,59,60,61,62,63,64,65,66,67,68,69,70,71,72,73,74,75,76,77,78,79,80,81,82,83,84,85,86,87,88,89,90,91,92,93,94,95,96,97,98,99,100,101,102,103,104,105,106,107,108,109,110,111,112,113,114,115,116,117,118,119,120,121,122,123,124,125,126,127,128,129,130,131,132,133,134,135,136,137,138,139,140,141,142,143,144,145,146,147,148,149,150,151,152,153,154,155,156,157]from rfl,hd]at hA
      simp only[List.map_cons,List.map_nil,y0,y1,y2,y3,y4,y5,y6,y7,y8,y9,y10,y11,y12,y13,y14,y15,y16,y17,y18,y19,y20,y21,y22,y23,y24,y25,y26,y27,y28,y29,y30,y31,y32,y33,y34,y35,y36,y37,y38,y39,y40,y41,y42,y43,y44,y45,y46,y47,y48,y49,y50,y51,y52,y53,y54,y55,y56,y57,y58,y59,y60,y61,y62,y63,y64,y65,y66,y67,y68,y69,y70,y71,y72,y73,y74,y75,y76,y77,y78,y79,y80,y81,y82,y83,y84,y85,y86,y87,y88,y89,y90,y91,y92,y93,y94,y95,y96,y97,y98,y99,y100,y101,y102,y103,y104,y105,y106,y107,y108,y109,y110,y111,y112,y113,y114,y115,y116,y117,y118,y119,y120,y121,y122,y123,y124,y125,y126,y127,y128,y129,y130,y131,y132,y133,y134,y135,y136,y137,y138,y139,y140,y141,y142,y143,y144,y145,y146,y147,y148,y149,y150,y151,y152,y153,y154,y155,y156,y157]at hA
      clear y0 y1 y2 y3 y4 y5 y6 y7 y8 y9 y10 y11 y12 y13 y14 y15 y16 y17 y18 y19 y20 y21 y22 y23 y24 y25 y26 y27 y28 y29 y30 y31 y32 y33 y34 y35 y36 y37 y38 y39 y40 y41 y42 y43 y44 y45 y46 y47 y48 y49 y50 y51 y52 y53 y54 y55 y56 y57 y58 y59 y60 y61 y62 y63 y64 y65 y66 y67 y68 y69 y70 y71 y72 y73 y74 y75 y76 y77 y78 y79 y80 y81 y82 y83 y84 y85 y86 y87 y88 y89 y90 y91 y92 y93 y94 y95 y96 y97 y98 y99 y100 y101 y102 y103 y104 y105 y106 y107 y108 y109 y110 y111 y112 y113 y114 y115 y116 y117 y118 y119 y120 y121 y122 y123 y124 y125 y126 y127 y128 y129 y130 y131 y132 y133 y134 y135 y136 y137 y138 y139 y140 y141 y142 y143 y144 y145 y146 y147 y148 y149 y150 y151 y152 y153 y154 y155 y156 y157
      clear hn hd
      subst hA
      have HRR4:=xh (HRR.out.below hC)
      have HBW4:=xh (HBW.out.trans (hC.mono HBW.out.size))
      have HW4:=xh (HW.out.trans (hC.mono (Nat.le_trans (Nat.le_succ _) HSW.out)))
      have OO4:=xh (OO.out.below hC)
      have OPS4:=xh (OPS.out.below hC)
      have HBR4:Hid (Bs W4 (.slice (some ⟨b1,o1,none⟩) r.length cp) r):=zaa HBR.out hC
      have HSW4:Hid (ga+1≤W4.heap.size):=Nat.le_trans HSW.out hC.size
      have HB4:=xh hC
      clear kc hC q1 q2 hw1 hw2 hw3 hw4 hi1 hi2 z0 z1 z2 z3 z4 zf hd3 hgt
      obtain⟨⟨z0,z1,z2,z3,z4⟩,zf⟩:=HRR4.out
      by_cases hzl:r.length-3<z
      ·have hdz:decide ((z:Int)>(r.length:Int)-3)=true:=decide_eq_true (by have:=H3.out;omega)
       have HN:Hid (frPF xs=.inl 4):=HNO.out (by rw[HRD.out,zcx H3.out (by rw[HZ.out];exact hzl)];rfl)
       clear hzl
       go_wp2_with fail
       have hs:=(HRR4.out.set 0 0 0 0 xS).1
       have hbs:=zaJ (b:=w.heap.size) HBW4.out xl 0 0 0 0 xS
       generalize (xC W4 w.heap.size xF:World)=W5 at*
       obtain⟨s0_,s1_,s2_,s3_,s4_⟩:=hs
       exact bodyPost_ret (v:=.tuple #[.agg xF,xI 4]) (by simp[results,Tryz.results19,go_sem,s0_,s1_,s2_,s3_,s4_]) rfl ⟨⟨_,_,rfl,.inl ⟨HN.out,_,_,rfl,zaW _ _⟩⟩,hbs⟩
      ·have hdz:decide ((z:Int)>(r.length:Int)-3)=false:=decide_eq_false (by have:=H3.out;omega)
       have HZL:Hid (z≤r.length-3):=by show _≤_;omega
       clear hzl
       obtain⟨y0,hy0⟩:∃x,r.getD 0 0=x:=⟨_,rfl⟩
       have by0:0≤y0∧y0<256:=by rw[←hy0];exact zaQ HBR.out.1 (by have:=H3.out;omega)
       have q0:W4.cell? ⟨b1,o1,none⟩=some (.int .u8 y0):=by rw[←hy0];exact(HB4.out.cell (World.block_lt_of_cell? _ _ (HRC.out.2 0 (by have:=H3.out;omega)))).trans (HRC.out.2 0 (by have:=H3.out;omega))
       have hw0:IntKind.i64.wrap y0=y0:=by rw[IntKind.wrap_i64];omega
       have hi0:(0:Int)<(r.length:Int):=by have:=H3.out;omega
       have hw6:IntKind.i64.wrap (3+(z:Int))=3+(z:Int):=by rw[IntKind.wrap_i64];have:=HLN.out;have:=HLR.out;have:=HZL.out;omega
       obtain⟨b9,hb9⟩:∃b,(r.drop 3).take z=b:=⟨_,rfl⟩
       have hl9:b9.length=z:=by rw[←hb9,List.length_take,List.length_drop];have:=HZL.out;omega
       obtain⟨B9,hB9⟩:∃B9,(if cp=3 then(some ⟨b1,o1,none⟩:Option Addr)else some ⟨b1,o1+3,none⟩)=B9:=⟨_,rfl⟩
       have HP9:Hid (Bs W4 (.slice B9 z (cp-3)) b9):=by
        show Bs _ _ _
        rw[←hB9,←hb9]
        exact zcY HBR4.out 3 z (by have:=HZL.out;have:=H3.out;omega) HRC.out.1
       have HY0:=xh hy0
       have HB9:=xh hb9
       have HL9:=xh hl9
       clear hy0 hb9 hl9 by0
       obtain⟨o9,ho9⟩:∃o,zaE y0 b9=o:=⟨_,rfl⟩
       obtain⟨q9,hq9⟩:∃q,o9.isSome=q:=⟨_,rfl⟩
       have HO9:Hid (zaE y0 b9=o9∧o9.isSome=q9):=⟨ho9,hq9⟩
       clear ho9 hq9
       have hs1:(3:Int)≤3+(z:Int):=by omega
       have hs2:3+(z:Int)≤(cp:Int):=by have:=HZL.out;have:=H3.out;have:=HRC.out.1;omega
       have hs4:(3+(z:Int)).toNat=3+z:=by omega
       have hs5:3+z-3=z:=by omega
       have q0a:∀O,(W4.alloc O).cell? ⟨b1,o1,none⟩=some (.int .u8 y0):=fun O=>(((Below.refl W4.heap.size W4).alloc xl O).cell (p:=⟨b1,o1,none⟩) (World.block_lt_of_cell? _ _ q0)).trans q0
       have HPX:Hid (∀V,Below W4.heap.size W4 V→Bs V (.slice B9 z (cp-3)) b9):=fun V h=>zaa HP9.out h
       clear z0 z1 z2 z3 z4 zf
       go_wp2_with fail
       go_region_with (go_at_call 36;first
        | (refine(zet y0 (.slice B9 z (cp-3)) b9 _ (HPX.out _ xr.drew)).mono ?_;rintro e V5 ⟨⟨r8,q8,rfl,hq1,hq2⟩,hb⟩;have HV5:=xh ((Below.refl W4.heap.size W4).drew.trans hb);have HQ1:=xh hq1;have HQ2:=xh hq2;clear hb hq1 hq2 q0 q0a)
        | (refine(zet y0 (.slice B9 z (cp-3)) b9 _ (HPX.out _ (xr.drew.alloc xl _))).mono ?_;rintro e V5 ⟨⟨r8,q8,rfl,hq1,hq2⟩,hb⟩;have OVA:=xh ((zac W4.drew zR 50 W4.heap.size rfl).below hb);have HV5:=xh (((Below.refl W4.heap.size W4).drew.alloc xl _).trans (hb.mono (by simp)));have HQ1:=xh hq1;have HQ2:=xh hq2;clear hb hq1 hq2 q0 q0a;obtain⟨⟨v0,v1,v2,v3,v4,v5,v6,v7,v8,v9,v10⟩,vf⟩:=OVA.out)
        | (refine(zet y0 (.slice B9 z (cp-3)) b9 _ (HPX.out _ ((xr.alloc xl _).drew))).mono ?_;rintro e V5 ⟨⟨r8,q8,rfl,hq1,hq2⟩,hb⟩;have OVA:=xh ((show OwnT ((W4.alloc (.cells xL 50)).drew) W4.heap.size zR from zac W4 zR 50 W4.heap.size rfl).below hb);have HV5:=xh (((Below.refl W4.heap.size W4).alloc xl _).drew.trans (hb.mono (by simp)));have HQ1:=xh hq1;have HQ2:=xh hq2;clear hb hq1 hq2 q0 q0a;obtain⟨⟨v0,v1,v2,v3,v4,v5,v6,v7,v8,v9,v10⟩,vf⟩:=OVA.out))
       all_goals
        first
        | (
         have OV9:=xh (zac V5 r8 50 V5.heap.size rfl)
         have HV9:=xh (HV5.out.alloc HV5.out.size (.cells (xR r8) 50))
         have HQ9:Hid (q8=true→∃p,zaE y0 b9=some p∧r8.Ow (V5.alloc (.cells (xR r8) 50)) W4.heap.size p):=fun h=>(by obtain⟨p,h1,h2⟩:=HQ1.out h;exact⟨p,h1,h2.below (xr.alloc xl _)⟩)
         go_upto_region 24 with (fail)
         obtain⟨V9,hV9⟩:∃V9,V5.alloc (.cells (xR r8) 50)=V9:=⟨_,rfl⟩
         rw[hV9]at OV9 HV9 HQ9 ⊢
         clear hV9)
        | (
         have OV9:=xh (OVA.out.setall r8)
         have HV9:=xh (zag (b:=W4.heap.size) HV5.out xl r8)
         have HQ9:Hid (q8=true→∃p,zaE y0 b9=some p∧r8.Ow (xC V5 W4.heap.size (xR r8)) W4.heap.size p):=fun h=>(by obtain⟨p,h1,h2⟩:=HQ1.out h;exact⟨p,h1,(zaT h2 (b:=W4.heap.size) (by simp) r8).mono (by simp)⟩)
         clear v0 v1 v2 v3 v4 v5 v6 v7 v8 v9 v10 vf OVA
         go_upto_region 24 with (fail)
         generalize (xC V5 W4.heap.size (xR r8):World)=V9 at *)
        cases q8 with
        | false=>
         have HN:Hid (frPF xs=.inl 4):=HNO.out (by rw[HRD.out,zdL H3.out (by rw[HZ.out];exact HZL.out) (by rw[HY0.out,HZ.out,HB9.out];exact HQ2.out rfl)];rfl)
         have HRR9:=xh (HRR4.out.below HV9.out)
         have HBW9:=xh (HBW4.out.trans (HV9.out.mono HBW4.out.size))
         obtain⟨⟨z0,z1,z2,z3,z4⟩,zf⟩:=HRR9.out
         go_wp2_with fail
         have hs:=(HRR9.out.set 0 0 0 0 xS).1
         have hbs:=zaJ (b:=w.heap.size) HBW9.out xl 0 0 0 0 xS
         generalize (xC V9 w.heap.size xF:World)=W5 at*
         obtain⟨s0_,s1_,s2_,s3_,s4_⟩:=hs
         exact bodyPost_ret (v:=.tuple #[.agg xF,xI 4]) (by simp[results,Tryz.results19,go_sem,s0_,s1_,s2_,s3_,s4_]) rfl ⟨⟨_,_,rfl,.inl ⟨HN.out,_,_,rfl,zaW _ _⟩⟩,hbs⟩
        | true=>
         obtain⟨p,hp1,hp2⟩:=HQ9.out rfl
         have HPO:Hid p.Ok:=(zdW HP9.out.1 hp1).1
         have HST:Hid (zaw r0=(zaw (r.drop (3+z))).map (fun l=>(acc++[p])++l)):=by
          show _=_
          rw[HRD.out,zbZ H3.out (by rw[HZ.out];exact HZL.out) (p:=p) (by rw[HY0.out,HZ.out,HB9.out];exact hp1),HZ.out,Option.map_map]
          congr 1
          funext l
          simp
         have HR8:=xh (hp2.mono HSW4.out)
         have HFW2:Hid (∀i,i<(acc++[p]).length→zaR ((acc++[p]).getD i zPt)):=fun i hi=>by
          by_cases h:i<acc.length
          ·rw[show(acc++[p]).getD i zPt=acc.getD i zPt by simp[List.getD,List.getElem?_append,h]];exact HFW.out i h
          ·have h2:i=acc.length:=by simp at hi;omega
           subst h2
           rw[show(acc++[p]).getD acc.length zPt=p by simp[List.getD]];exact zeh HPO.out
         have OO9:=xh (OO4.out.below HV9.out)
         have OPS9:=xh (OPS4.out.below HV9.out)
         obtain⟨a3,c3,rfl⟩:=OPS4.out.form
         have HSW9:Hid (ga+1≤V9.heap.size):=Nat.le_trans HSW4.out HV9.out.size
         have HW9:=xh (HW4.out.trans (HV9.out.mono (Nat.le_trans (Nat.le_succ _) HSW4.out)))
         have HZ3:Hid (3+z≤r.length):=by show _≤_;have:=HZL.out;have:=H3.out;omega
         obtain⟨A10,hA10⟩:∃A10,(if cp=3+z then(some ⟨b1,o1,none⟩:Option Addr)else some ⟨b1,o1+(3+z),none⟩)=A10:=⟨_,rfl⟩
         have HBN:Hid (Bs V0 (.slice A10 (r.drop (3+z)).length (cp-(3+z))) (r.drop (3+z))):=by
          have h:=zcY HB0.out (3+z) (r.length-(3+z)) (by have:=HZ3.out;omega) HRC.out.1
          rw[hA10]at h
          show Bs _ _ _
          rw[List.take_of_length_le (by rw[List.length_drop];exact Nat.le_refl _)]at h
          rw[List.length_drop];exact h
         have hx1:(0:Int)≤3+(z:Int):=by omega
         have hx2:3+(z:Int)≤(r.length:Int):=by have:=HZ3.out;omega
         have hx3:(r.length:Int)≤(cp:Int):=by have:=HRC.out.1;omega
         clear hp1 hp2 hs1 hs2 hs5
         obtain⟨⟨u0,u1,u2,u3,u4⟩,uf⟩:=OO9.out
         obtain⟨⟨v0,v1,v2,v3,v4,v5,v6,v7,v8,v9,v10⟩,vf⟩:=OV9.out
         go_wp2_with (at_builtin;(skip;refine zi6 rfl (.tmp 134) (.tmp 136) rfl V9 r8 p rfl (ga+1) (.slice a3 acc.length c3) acc HR8.out rfl rfl OPS9.out (by have:=HLN.out;have:=HLR.out;omega) HSW9.out ?_;intro g cap w' hps hb;(have OOa:=xh (OO9.out.low (Nat.lt_succ_self ga) hb));(have OPSa:=xh hps);(have HWa:=xh (HW9.out.trans (hb.mono (Nat.le_succ ga))));(have HSWa:Hid (ga+1≤w'.heap.size):=Nat.le_trans HSW9.out hb.size);clear hps hb u0 u1 u2 u3 u4 uf v0 v1 v2 v3 v4 v5 v6 v7 v8 v9 v10 vf;obtain⟨⟨u0,u1,u2,u3,u4⟩,uf⟩:=OOa.out))
         go_roundw
         case rel=>exact⟨r.drop (3+z),acc++[p],A10,cp-(3+z),_,by rw[List.length_drop],HBN.out,OOa.out.set4 _,OPSa.out.apart (Nat.lt_succ_self ga) 4,HST.out,HFW2.out,by have:=HLN.out;have:=HZ3.out;simp only[List.length_append,List.length_cons,List.length_nil,List.length_drop];omega,by simpa using HSWa.out,HWa.out.setCell (p:=xQ ga 4) xl _⟩
         case measure=>have:=HZ3.out;have:=H3.out;simp;omega
    ·have hr0:r=[]:=List.length_eq_zero_iff.1 (by omega)
     have HRA:Hid (zaw r0=some acc):=by show _=_;rw[HRD.out,hr0,zbV];simp
     subst hr0
     have HPR:Hid (frPF xs=if(acc.length:Int)=xs.getD 14 0∧FrOk fr ep to pe acc then .inr ⟨fr,ep,to,pe,acc⟩else .inl 4):=by show _=_;rw[HP1.out,HRA.out]
     obtain⟨a3,c3,rfl⟩:=OPS.out.form
     obtain⟨x14,hx14⟩:∃x,xs.getD 14 0=x:=⟨_,rfl⟩
     have b14:0≤x14∧x14<256:=by rw[←hx14];exact zaQ HX.out (by have:=H17.out;omega)
     have q14:wr.cell? ⟨bb,bo+14,none⟩=some (.int .u8 x14):=by
      rw[←hx14];exact(HV0W.out.cell (p:=⟨bb,bo+14,none⟩) (World.block_lt_of_cell? V0 _ (HCE.out 14 (by have:=H17.out;omega)))).trans (HCE.out 14 (by have:=H17.out;omega))
     have hw14:IntKind.i64.wrap x14=x14:=by rw[IntKind.wrap_i64];omega
     have hi14:(14:Int)<(xs.length:Int):=by have:=H17.out;omega
     rw[hx14]at HPR
     have HAL:Hid (acc.length≤1000):=by show _≤_;have h1:=HLN.out;have h2:=HLR.out;simp only[List.length_nil,Nat.add_zero]at h1;omega
     clear hx14 b14 z0 z1 z2 z3 z4 zf hlt
     obtain⟨⟨u0,u1,u2,u3,u4⟩,uf⟩:=OO.out
     go_wp2_with fail
     by_cases hc:(acc.length:Int)=x14
     rotate_left
     ·have hc':((acc.length:Int) !=x14)=true:=by simpa using hc
      have HN:Hid (frPF xs=.inl 4):=HPR.out.trans (if_neg (fun h=>hc h.1))
      clear hc
      obtain⟨⟨z0,z1,z2,z3,z4⟩,zf⟩:=HRR.out
      have hne9:ga≠w.heap.size:=by have:=HGA.out.1;omega
      go_region
      go_wp2_with fail
      have hs:=(HRR.out.set 0 0 0 0 xS).1
      have hbs:=zaJ (b:=w.heap.size) HBW.out xl 0 0 0 0 xS
      generalize (xC wr w.heap.size xF:World)=W5 at*
      obtain⟨s0_,s1_,s2_,s3_,s4_⟩:=hs
      exact bodyPost_ret (v:=.tuple #[.agg xF,xI 4]) (by simp[results,Tryz.results19,go_sem,s0_,s1_,s2_,s3_,s4_]) rfl ⟨⟨_,_,rfl,.inl ⟨HN.out,_,_,rfl,zaW _ _⟩⟩,hbs.drew⟩
     have hc':((acc.length:Int) !=x14)=false:=by simpa using hc
     have HCX:=xh hc
     clear hc
     have HPSD:=xh (OPS.out.ps.below (Below.refl wr.heap.size wr).drew)
     have cR:=xh (zgT fr ep to pe a3 c3 acc wr.drew HPSD.out HFW.out HAL.out)
     by_cases hok:FrOk fr ep to pe acc
     ·rw[decide_eq_true hok]at cR
      have HPF:Hid (frPF xs=.inr ⟨fr,ep,to,pe,acc⟩):=HPR.out.trans (if_pos ⟨HCX.out,hok⟩)
      clear hok
      go_region_with (go_at_call 14;refine cR.out.mono ?_;rintro e V5 ⟨rfl,hb⟩;have HV5:=xh ((Below.refl wr.heap.size wr).drew.trans hb);clear hb u0 u1 u2 u3 u4 uf q14)
      all_goals
       have OO5:=xh (OO.out.below HV5.out)
       have HRR5:=xh (HRR.out.below HV5.out)
       have HBW5:=xh (HBW.out.trans (HV5.out.mono HBW.out.size))
       have OPS5:=xh (OPS.out.below HV5.out)
       obtain⟨⟨u0,u1,u2,u3,u4⟩,uf⟩:=OO5.out
       obtain⟨⟨z0,z1,z2,z3,z4⟩,zf⟩:=HRR5.out
       go_wp2_with fail
       have hs:=(HRR5.out.set fr ep to pe (.slice a3 acc.length c3)).1
       have hbs:=zaJ (b:=w.heap.size) HBW5.out xl fr ep to pe (.slice a3 acc.length c3)
       have how:=(OPS5.out.onl ((((((Onl.refl w.heap.size V5).set 0 (xI fr)).set 1 (xI ep)).set 2 (xI to)).set 3 (xI pe)).set 4 (.slice a3 acc.length c3)) (by have:=HGA.out.1;omega)).mono (show w.heap.size≤ga+1 by have:=HGA.out.1;omega)
       generalize (xC V5 w.heap.size (xA fr ep to pe (.slice a3 acc.length c3)):World)=W5 at*
       obtain⟨s0_,s1_,s2_,s3_,s4_⟩:=hs
       exact bodyPost_ret (v:=.tuple #[.agg (xA fr ep to pe (.slice a3 acc.length c3)),xI 0]) (by simp[results,Tryz.results19,go_sem,s0_,s1_,s2_,s3_,s4_]) rfl ⟨⟨_,_,rfl,.inr ⟨⟨fr,ep,to,pe,acc⟩,HPF.out,rfl,_,_,rfl,how⟩⟩,hbs⟩
     ·rw[decide_eq_false hok]at cR
      have HPF:Hid (frPF xs=.inl 4):=HPR.out.trans (if_neg (fun h=>hok h.2))
      clear hok
      go_region_with (go_at_call 14;refine cR.out.mono ?_;rintro e V5 ⟨rfl,hb⟩;have HV5:=xh ((Below.refl wr.heap.size wr).drew.trans hb);clear hb u0 u1 u2 u3 u4 uf q14)
      all_goals
       have HRR5:=xh (HRR.out.below HV5.out)
       have HBW5:=xh (HBW.out.trans (HV5.out.mono HBW.out.size))
       obtain⟨⟨z0,z1,z2,z3,z4⟩,zf⟩:=HRR5.out
       go_wp2_with fail
       have hs:=(HRR5.out.set 0 0 0 0 xS).1
       have hbs:=zaJ (b:=w.heap.size) HBW5.out xl 0 0 0 0 xS
       generalize (xC V5 w.heap.size xF:World)=W5 at*
       obtain⟨s0_,s1_,s2_,s3_,s4_⟩:=hs
       exact bodyPost_ret (v:=.tuple #[.agg xF,xI 4]) (by simp[results,Tryz.results19,go_sem,s0_,s1_,s2_,s3_,s4_]) rfl ⟨⟨_,_,rfl,.inl ⟨HPF.out,_,_,rfl,zaW _ _⟩⟩,hbs⟩
  ·have hs3':(g2 !=g3)=true:=by simpa using hs3
   have HN:Hid (frPF xs=.inl 5):=by
    show _=_
    have e1:xs.length-2=m:=by have:=HM.out;omega
    rw[HP0.out,if_neg (by have:=HGE.out;omega),if_neg (by have:=HGE.out;omega),e1,HG2.out,HG3.out,if_pos hs3]
   clear hs3 c2 c3
   go_wp2_with fail
   have hs:=(OR.out.set 0 0 0 0 xS).1
   have hbs:=zaJ (b:=w.heap.size) HB.out xl 0 0 0 0 xS
   generalize (xC V0 w.heap.size xF:World)=W5 at*
   obtain⟨s0_,s1_,s2_,s3_,s4_⟩:=hs
   exact bodyPost_ret (v:=.tuple #[.agg xF,xI 5]) (by simp[results,Tryz.results19,go_sem,s0_,s1_,s2_,s3_,s4_]) rfl ⟨⟨_,_,rfl,.inl ⟨HN.out,_,_,rfl,zaW _ _⟩⟩,hbs⟩
 ·have HT:Hid (xs.getD 0 0≠84∨xs.getD 1 0≠1):=by show _∨_;rw[HX0.out,HX1.out];omega
  by_cases h84':(x0 !=84)=true
  ·clear h84
   go_wp2_with fail
   have hs:=(OR.out.set 0 0 0 0 xS).1
   have hbs:=zaJ (b:=w.heap.size) HB.out xl 0 0 0 0 xS
   generalize (xC V0 w.heap.size xF:World)=W5 at*
   obtain⟨s0_,s1_,s2_,s3_,s4_⟩:=hs
   exact bodyPost_ret (v:=.tuple #[.agg xF,xI 4]) (by simp[results,Tryz.results19,go_sem,s0_,s1_,s2_,s3_,s4_]) rfl ⟨⟨_,_,rfl,.inl ⟨by unfold frPF;rw[if_neg (by have:=H17.out;omega)];exact if_pos HT.out,_,_,rfl,zaW _ _⟩⟩,hbs⟩
  ·have h84'':(x0 !=84)=false:=by simpa using h84'
   have h1':(x1 !=1)=true:=by
    have:x0=84:=by simpa using h84'
    have h9:¬x1=1:=fun h=>h84 ⟨this,h⟩
    simpa using h9
   clear h84 h84'
   go_wp2_with fail
   have hs:=(OR.out.set 0 0 0 0 xS).1
   have hbs:=zaJ (b:=w.heap.size) HB.out xl 0 0 0 0 xS
   generalize (xC V0 w.heap.size xF:World)=W5 at*
   obtain⟨s0_,s1_,s2_,s3_,s4_⟩:=hs
   exact bodyPost_ret (v:=.tuple #[.agg xF,xI 4]) (by simp[results,Tryz.results19,go_sem,s0_,s1_,s2_,s3_,s4_]) rfl ⟨⟨_,_,rfl,.inl ⟨by unfold frPF;rw[if_neg (by have:=H17.out;omega)];exact if_pos HT.out,_,_,rfl,zaW _ _⟩⟩,hbs⟩
end Go.Proofs.YtjghebcnmoojmaaGreat
