/- A packet out of bytes: One form for each answer; What the reader answers at its end, of a packet; -/
import Derived.Test.YtjghebcnmoojmaaGreatV07
import Derived.Test.YtjghebcnmoojmaaGreatV15
set_option maxRecDepth 100000
set_option maxHeartbeats 32000000
namespace Go.Proofs.YtjghebcnmoojmaaGreat
open Go.RowKit MX
def NewPV (V:World):Ty:=fun v w=>∃b,v=xP b∧V.heap.size≤b∧OwnP w b 0 0 0 0 ⟨#[]⟩
theorem NewPV.keeps (V:World)(k:Nat):T3.Keeps (fun _ w w'=>Below w.heap.size w w') k (NewPV V):=fun _ _ _ _ _ ⟨b,h1,h2,h3⟩ hb=>⟨b,h1,h2,h3.below hb⟩
theorem za0 {w:World}{a:Option Addr}{l c:Nat}{xs:List Int}(h:Bs w (.slice a l c) xs):l=xs.length∧(xs.length≤c∨xs=[]):=by
 obtain⟨_,_,⟨a',c',h1,_,rfl⟩|⟨b,o,c',h1,h2,_⟩⟩:=h
 ·simp only[Value.slice.injEq]at h1;exact⟨h1.2.1,.inr rfl⟩
 ·simp only[Value.slice.injEq]at h1;exact⟨h1.2.1,.inl (by omega)⟩
theorem zgz (v:Value)(xs:List Int)(q:Int)(w:World)(hv:Bs w v xs):
  Calls Tryz.prog 61 #[v,xI q] w fun e w'=>e=.returned (.tuple #[(.agg #[xI (pkR (pkPF xs q)).1,xI (pkR (pkPF xs q)).2.1,xI (pkR (pkPF xs q)).2.2.1,xI (pkR (pkPF xs q)).2.2.2.1,.string (pkR (pkPF xs q)).2.2.2.2]),xI (pkT (pkPF xs q)),xI (pkE (pkPF xs q))])∧Below w.heap.size w w':=by
 have HX:=xh hv.1
 have HV:=xh hv
 obtain⟨a,l,c,rfl⟩:=zal hv
 clear hv
 obtain⟨g,hg⟩:∃g,w.heap.size=g:=⟨_,rfl⟩
 obtain⟨V,hVe⟩:∃V,(w.alloc (.cells xH 48)).alloc (.cells #[xI 1,xI 1,xI 1,xI 2,xI 2] 3)=V:=⟨_,rfl⟩
 have hz:∀i,i<5→V.cell? ⟨g+1,i,none⟩=xJ (szP i):=fun i hi=>by
  rw[←hVe,←hg]
  have:i=0∨i=1∨i=2∨i=3∨i=4:=by omega
  rcases this with rfl|rfl|rfl|rfl|rfl<;>simp[szP]
 have hOR:OwnP V g 0 0 0 0 ⟨#[]⟩:=by
  rw[←hVe]
  exact(za1 w 0 0 0 0 ⟨#[]⟩ 48 g hg.symm).below (xr.alloc xl _)
 have hbV:Below g w V:=by rw[←hVe,←hg];exact(xr.alloc xl _).alloc (by simp) _
 have hsV:V.heap.size=g+2:=by rw[←hVe,←hg];simp
 have HZ:=xh hz
 have HOR:=xh hOR
 have HBV:=xh hbV
 have HSV:=xh hsV
 clear hz hOR hbV hsV
 go_enter Tryz.func61,Tryz.ntmps61
 go_wp2_with fail
 try rw[hVe]
 try rw[hg]
 have HG:=xh hg
 clear hVe hg
 go_loopw [1,7,9] (fun p out i wi=>∃(j:Nat) (vs:Value),j≤5∧vs=out∧i=xI j∧p=xI (pP xs q j)∧(∀i,i<j→pE xs q i=0)∧wi.ownsRow (g+2) 3 1 vs ((List.range j).map (pV xs q)).length (((List.range j).map (pV xs q)).map (Value.int .i64))∧Below (g+2) V wi) (fun _ _ i _=>5-(intOf i).toNat)
 case atStart=>exact⟨0,_,Nat.zero_le _,rfl,rfl,rfl,fun i h=>absurd h (Nat.not_lt_zero _),World.ownsRow_nil _ _ _ _,Below.refl _ _⟩
 case round=>
  obtain⟨j,vs,hj,rfl,rfl,rfl,he,hvs,hbi⟩:=hrel
  have HE:=xh he
  have HVS:=xh hvs
  have HBI:=xh hbi
  have OR:=xh (HOR.out.low (Nat.lt_add_of_pos_right (by decide)) hbi)
  have HB:Hid (Below w.heap.size w wr):=by rw[HG.out];exact HBV.out.trans (hbi.mono (Nat.le_add_right g 2))
  have HVI:Hid (Bs wr (.slice a l c) xs):=zaa HV.out HB.out
  have HGW:Hid (g+2≤wr.heap.size):=by have:=hbi.size;rw[HSV.out]at this;exact this
  clear he hvs hbi
  by_cases hlj:j<5
  ·obtain⟨⟨n1,n2,n3⟩,hn⟩:∃n,getS xs (pP xs q j) (szP j)=n:=⟨_,rfl⟩
   have d2:=xh (zaF (.slice a l c) xs (pP xs q j) (szP j) wr HVI.out)
   rw[hn]at d2
   simp only[tri]at d2
   have N1:Hid (pV xs q j=n1):=by show _=_;unfold pV;rw[hn]
   have N2:Hid (pP xs q (j+1)=n2):=by show _=_;rw[pP,hn]
   have N3:Hid (pE xs q j=n3):=by show _=_;unfold pE;rw[hn]
   have z0:=(HBI.out.cell (p:=⟨g+1,j,none⟩) (Nat.lt_succ_self (g+1))).trans (HZ.out j hlj)
   obtain⟨P,hP⟩:∃P,pP xs q j=P:=⟨_,rfl⟩
   obtain⟨Z,hZe⟩:∃Z,szP j=Z:=⟨_,rfl⟩
   obtain⟨L,hL⟩:∃L,(List.range j).map (pV xs q)=L:=⟨_,rfl⟩
   have hLl:L.length=j:=by rw[←hL];simp
   rw[hL]at HVS
   rw[hP,hZe]at d2
   rw[hZe]at z0
   rw[hP]
   have HL:=xh hL
   have HLL:=xh hLl
   clear hn hP hZe hL hLl
   go_wp2_with fail
   refine d2.out.mono ?_
   rintro e w5 ⟨rfl,hw⟩
   subst hw
   by_cases h6:n3=0
   ·have h6':(n3 !=0)=false:=by simpa using h6
    have H6:=xh h6
    clear h6 d2
    go_wp2_with (at_builtin;(skip;refine zhZ rfl (.tmp 34) (.tmp 36) rfl (g+2) L [n1] (HVS.out.alloc _) (zjU wr [n1] 3 _ 1 rfl rfl (by simp) _ rfl) (by have:=HLL.out;simp;omega) (by have:=HGW.out;simp;omega) ?_;intro v2 w2 hown2 hb2 hs2 hn2;have O2:=xh hown2;have HB2:=xh hb2;clear hown2 hb2 hs2 hn2))
    go_roundw
    case rel=>
     refine⟨j+1,_,by omega,rfl,by go_num,by rw[N2.out],fun i hi=>?_,by rw[ziC,N1.out,HL.out];exact O2.out,(HBI.out.alloc HGW.out _).trans HB2.out⟩
     by_cases h:i<j
     ·exact HE.out i h
     ·obtain rfl:i=j:=by omega
      rw[N3.out];exact H6.out
    case measure=>simp[intOf];omega
   ·have h6':(n3 !=0)=true:=by simpa using h6
    have H6:=xh h6
    have HR:Hid (pkPF xs q=.inl n3):=by
     show _=_
     rw[zfb hlj HE.out (by rw[N3.out];exact h6),N3.out]
    clear h6 d2
    obtain⟨⟨r0,r1,r2,r3,r4⟩,rf⟩:=OR.out
    go_wp2_with fail
    rw[←HG.out]
    rw[←HG.out]at OR
    have hs:=(OR.out.set 0 0 0 0 ⟨#[]⟩).1
    have hbs:=zbE (b:=w.heap.size) HB.out xl 0 0 0 0 ⟨#[]⟩
    simp only[put5]at hs hbs
    generalize (xC wr w.heap.size xH:World)=W5 at*
    obtain⟨s0_,s1_,s2_,s3_,s4_⟩:=hs
    exact bodyPost_ret (v:=.tuple #[.agg xH,xI 0,xI n3]) (by simp[results,Tryz.results61,go_sem,s0_,s1_,s2_,s3_,s4_]) rfl ⟨by rw[HR.out];rfl,hbs⟩
  ·obtain rfl:j=5:=by omega
   have hin:=zne HE.out
   have HR:Hid (pkPF xs q=endP xs (pV xs q 0) (pV xs q 1) (pV xs q 2) (pV xs q 3) (pV xs q 4) (pP xs q 5)):=zfk HE.out
   have hL:(List.range 5).map (pV xs q)=[pV xs q 0,pV xs q 1,pV xs q 2,pV xs q 3,pV xs q 4]:=rfl
   have bd:=fun j hj=>zlK HX.out q (j:=j) hj
   have bd4:=bd 4 (by decide)
   obtain⟨m0,h0⟩:∃r,pV xs q 0=r:=⟨_,rfl⟩
   obtain⟨m1,h1⟩:∃r,pV xs q 1=r:=⟨_,rfl⟩
   obtain⟨m2,h2⟩:∃r,pV xs q 2=r:=⟨_,rfl⟩
   obtain⟨m3,h3⟩:∃r,pV xs q 3=r:=⟨_,rfl⟩
   obtain⟨m4,h4⟩:∃r,pV xs q 4=r:=⟨_,rfl⟩
   obtain⟨P5,hP5⟩:∃r,pP xs q 5=r:=⟨_,rfl⟩
   have hvs:=HVS.out
   rw[hL,h0,h1,h2,h3,h4]at hvs
   rw[h0,h1,h2,h3,h4,hP5]at HR
   rw[hP5]at hin ⊢
   rw[h4]at bd4
   have HIN:=xh hin
   have HM4:=xh bd4
   clear hL h0 h1 h2 h3 h4 hP5 HVS hin bd HE HZ
   obtain⟨b4,c4,hv4,hb4⟩:∃b c,vs=.slice (some (xQ b 0)) 5 c∧g+2≤b:=by
    rcases hvs.2 with ⟨_,h⟩|⟨b,cap,cur,h1,h2,_⟩
    ·simp at h
    ·exact⟨b,cap,h1,h2⟩
   subst hv4
   have q0:=zbf hvs 0 (by decide)
   have q1:=zbf hvs 1 (by decide)
   have q2:=zbf hvs 2 (by decide)
   have q3:=zbf hvs 3 (by decide)
   have q4:=zbf hvs 4 (by decide)
   simp only[List.map_cons,List.map_nil,List.getElem?_cons_zero,List.getElem?_cons_succ]at q0 q1 q2 q3 q4
   have HVS:=xh hvs
   have HB4:=xh hb4
   clear hvs hb4
   have hbl:=za0 HVI.out
   obtain⟨rfl,hlc⟩:=hbl
   obtain⟨⟨r0,r1,r2,r3,r4⟩,rf⟩:=OR.out
   by_cases k1:m4>256
   ·have HR2:Hid (pkPF xs q=.inl 4):=by show _=_;rw[HR.out];unfold endP;rw[if_pos k1]
    go_wp2_with fail
    rw[←HG.out]
    rw[←HG.out]at OR
    have hs:=(OR.out.set 0 0 0 0 ⟨#[]⟩).1
    have hbs:=zbE (b:=w.heap.size) HB.out xl 0 0 0 0 ⟨#[]⟩
    simp only[put5]at hs hbs
    generalize (xC wr w.heap.size xH:World)=W5 at*
    obtain⟨s0_,s1_,s2_,s3_,s4_⟩:=hs
    exact bodyPost_ret (v:=.tuple #[.agg xH,xI 0,xI 4]) (by simp[results,Tryz.results61,go_sem,s0_,s1_,s2_,s3_,s4_]) rfl ⟨by rw[HR2.out];rfl,hbs⟩
   ·have k1':decide (m4>256)=false:=decide_eq_false k1
    have hsw:IntKind.i64.wrap ((xs.length:Int)-P5)=(xs.length:Int)-P5:=by rw[IntKind.wrap_i64];have:=HVI.out.2.1;have:=HIN.out;omega
    by_cases k2:(xs.length:Int)-P5<m4
    ·have HR2:Hid (pkPF xs q=.inl 6):=by show _=_;rw[HR.out];unfold endP;rw[if_neg k1,if_pos k2]
     go_wp2_with fail
     rw[←HG.out]
     rw[←HG.out]at OR
     have hs:=(OR.out.set 0 0 0 0 ⟨#[]⟩).1
     have hbs:=zbE (b:=w.heap.size) HB.out xl 0 0 0 0 ⟨#[]⟩
     simp only[put5]at hs hbs
     generalize (xC wr w.heap.size xH:World)=W5 at*
     obtain⟨s0_,s1_,s2_,s3_,s4_⟩:=hs
     exact bodyPost_ret (v:=.tuple #[.agg xH,xI 0,xI 6]) (by simp[results,Tryz.results61,go_sem,s0_,s1_,s2_,s3_,s4_]) rfl ⟨by rw[HR2.out];rfl,hbs⟩
    ·have k2':decide ((xs.length:Int)-P5<m4)=false:=decide_eq_false k2
     obtain⟨p,hp⟩:∃p:Nat,P5=p:=⟨P5.toNat,by have:=HIN.out;omega⟩
     obtain⟨k,hk⟩:∃k:Nat,m4=k:=⟨m4.toNat,by have:=HM4.out;omega⟩
     subst hp
     subst hk
     have hpk:p+k≤xs.length:=by omega
     have h7:7≤xs.length:=by have:=HIN.out;omega
     obtain⟨b,o,rfl,hcap⟩:∃b o,a=some ⟨b,o,none⟩∧xs.length≤c:=by
      obtain⟨_,_,⟨a',c',h1,_,rfl⟩|⟨b,o,c',h1,h2,_⟩⟩:=HVI.out
      ·simp at h7
      ·simp only[Value.slice.injEq,true_and]at h1;exact⟨b,o,h1.1,by omega⟩
     have HW9:=xh (zcY HVI.out p k hpk hcap)
     obtain⟨X,hX⟩:∃X,strOfNums ((xs.drop p).take k)=X:=⟨_,rfl⟩
     have hsub:sub xs p k=X:=by rw[←hX];rfl
     obtain⟨A9,hA9⟩:∃A9,(if c=p then some (⟨b,o,none⟩:Addr)else some ⟨b,o+p,none⟩)=A9:=⟨_,rfl⟩
     rw[hA9]at HW9
     have hcv:∀w',Below wr.heap.size wr w'→(convert 26 9 (.slice A9 k (c-p))).run Tryz.prog w'=.ok (.string X) w':=fun w' h=>by rw[←hX];exact zeq (zaa HW9.out h)
     have HR3:Hid (pkPF xs q=if PkOk m0 m1 m2 m3 X then .inr ((m0,m1,m2,m3,X),(p:Int)+k)else .inl 4):=by
      show _=_
      rw[HR.out];unfold endP;rw[if_neg k1,if_neg k2,hsub]
     have hwk:IntKind.i64.wrap ((p:Int)+(k:Int))=(p:Int)+(k:Int):=by rw[IntKind.wrap_i64];have:=HVI.out.2.1;omega
     have hs0:(0:Int)≤(p:Int):=Int.natCast_nonneg _
     have hs1:(p:Int)≤(p:Int)+(k:Int):=by omega
     have hs2:(p:Int)+(k:Int)≤(c:Int):=by omega
     have hs3:((p:Int)).toNat=p:=Int.toNat_natCast p
     have hs4:((p:Int)+(k:Int)).toNat=p+k:=by omega
     have hs5:p+k-p=k:=by omega
     clear hX hsub HW9 h7 hpk
     go_wp2_with fail
     have kc:∀w',Below wr.heap.size wr w'→w'.cell? (xQ b4 0)=xJ m0∧w'.cell? (xQ b4 1)=xJ m1∧w'.cell? (xQ b4 2)=xJ m2∧w'.cell? (xQ b4 3)=xJ m3∧w'.cell? (xQ b4 4)=xJ k:=fun w' h=>⟨(h.cell (World.block_lt_of_cell? _ _ q0)).trans q0,(h.cell (World.block_lt_of_cell? _ _ q1)).trans q1,(h.cell (World.block_lt_of_cell? _ _ q2)).trans q2,(h.cell (World.block_lt_of_cell? _ _ q3)).trans q3,(h.cell (World.block_lt_of_cell? _ _ q4)).trans q4⟩
     refine T3.wp_region_tail (C:=fun w'=>Below wr.heap.size wr w') (X:=fun _ w w'=>Below w.heap.size w w') (n:=85) 23 (by kernel_rfl) (by kernel_rfl) (by kernel_rfl) (by kernel_rfl) rfl (fun _ w=>Below.refl _ w) xr.drew ?_
     simp only[List.take_succ_cons,List.take_zero,List.drop_succ_cons,List.drop_zero]
     refine T3.w_is (fun _ w=>Below.refl _ w) rfl _ (.inl rfl) (fun ρ w hC hc hfn hf=>by have e7:ρ (.tmp 7)=_:=hf 7 (by decide);(conv=>lhs;simp[execOp,go_sem,hc,e7])) ?_
     refine T3.w_is (fun _ w=>Below.refl _ w) rfl _ (.inl rfl) (fun ρ w hC hc hfn hf=>by have e53:ρ (.tmp 53)=_:=hf 53 (by decide);(conv=>lhs;simp[execOp,go_sem,hc,e53])) ?_
     refine T3.w_is (fun _ w=>Below.refl _ w) rfl _ (.inl rfl) (fun ρ w hC hc hfn hf=>by have e54:ρ (.tmp 54)=_:=hf 54 (by decide);(conv=>lhs;simp[execOp,go_sem,hc,e54,kc w hC])) ?_
     refine T3.w_is (fun _ w=>Below.refl _ w) rfl _ (.inl rfl) (fun ρ w hC hc hfn hf=>by have e7:ρ (.tmp 7)=_:=hf 7 (by decide);(conv=>lhs;simp[execOp,go_sem,hc,e7])) ?_
     refine T3.w_is (fun _ w=>Below.refl _ w) rfl _ (.inl rfl) (fun ρ w hC hc hfn hf=>by have e56:ρ (.tmp 56)=_:=hf 56 (by decide);(conv=>lhs;simp[execOp,go_sem,hc,e56])) ?_
     refine T3.w_is (fun _ w=>Below.refl _ w) rfl _ (.inl rfl) (fun ρ w hC hc hfn hf=>by have e57:ρ (.tmp 57)=_:=hf 57 (by decide);(conv=>lhs;simp[execOp,go_sem,hc,e57,kc w hC])) ?_
     refine T3.w_is (fun _ w=>Below.refl _ w) rfl _ (.inl rfl) (fun ρ w hC hc hfn hf=>by have e7:ρ (.tmp 7)=_:=hf 7 (by decide);(conv=>lhs;simp[execOp,go_sem,hc,e7])) ?_
     refine T3.w_is (fun _ w=>Below.refl _ w) rfl _ (.inl rfl) (fun ρ w hC hc hfn hf=>by have e59:ρ (.tmp 59)=_:=hf 59 (by decide);(conv=>lhs;simp[execOp,go_sem,hc,e59])) ?_
     refine T3.w_is (fun _ w=>Below.refl _ w) rfl _ (.inl rfl) (fun ρ w hC hc hfn hf=>by have e60:ρ (.tmp 60)=_:=hf 60 (by decide);(conv=>lhs;simp[execOp,go_sem,hc,e60,kc w hC])) ?_
     refine T3.w_is (fun _ w=>Below.refl _ w) rfl _ (.inl rfl) (fun ρ w hC hc hfn hf=>by have e7:ρ (.tmp 7)=_:=hf 7 (by decide);(conv=>lhs;simp[execOp,go_sem,hc,e7])) ?_
     refine T3.w_is (fun _ w=>Below.refl _ w) rfl _ (.inl rfl) (fun ρ w hC hc hfn hf=>by have e62:ρ (.tmp 62)=_:=hf 62 (by decide);(conv=>lhs;simp[execOp,go_sem,hc,e62])) ?_
     refine T3.w_is (fun _ w=>Below.refl _ w) rfl _ (.inl rfl) (fun ρ w hC hc hfn hf=>by have e63:ρ (.tmp 63)=_:=hf 63 (by decide);(conv=>lhs;simp[execOp,go_sem,hc,e63,kc w hC])) ?_
     refine T3.w_is (fun _ w=>Below.refl _ w) rfl _ (.inl rfl) (fun ρ w hC hc hfn hf=>by have e0:ρ (.tmp 0)=_:=hf 0 (by decide);(conv=>lhs;simp[execOp,go_sem,hc,e0])) ?_
     refine T3.w_is (fun _ w=>Below.refl _ w) rfl _ (.inl rfl) (fun ρ w hC hc hfn hf=>by have e1:ρ (.tmp 1)=_:=hf 1 (by decide);(conv=>lhs;simp[execOp,go_sem,hc,e1])) ?_
     refine T3.w_is (fun _ w=>Below.refl _ w) rfl _ (.inl rfl) (fun ρ w hC hc hfn hf=>by have e1:ρ (.tmp 1)=_:=hf 1 (by decide);(conv=>lhs;simp[execOp,go_sem,hc,e1])) ?_
     refine T3.w_is (fun _ w=>Below.refl _ w) rfl _ (.inl rfl) (fun ρ w hC hc hfn hf=>by have e7:ρ (.tmp 7)=_:=hf 7 (by decide);(conv=>lhs;simp[execOp,go_sem,hc,e7])) ?_
     refine T3.w_is (fun _ w=>Below.refl _ w) rfl _ (.inl rfl) (fun ρ w hC hc hfn hf=>by have e68:ρ (.tmp 68)=_:=hf 68 (by decide);(conv=>lhs;simp[execOp,go_sem,hc,e68])) ?_
     refine T3.w_is (fun _ w=>Below.refl _ w) rfl _ (.inl rfl) (fun ρ w hC hc hfn hf=>by have e69:ρ (.tmp 69)=_:=hf 69 (by decide);(conv=>lhs;simp[execOp,go_sem,hc,e69,kc w hC])) ?_
     refine T3.w_is (fun _ w=>Below.refl _ w) rfl _ (.inl rfl) (fun ρ w hC hc hfn hf=>by have e67:ρ (.tmp 67)=_:=hf 67 (by decide);have e70:ρ (.tmp 70)=_:=hf 70 (by decide);(conv=>lhs;simp[execOp,go_sem,hc,e67,e70,hwk])) ?_
     refine T3.w_is (fun _ w=>Below.refl _ w) rfl _ (.inl rfl) (fun ρ w hC hc hfn hf=>by have e65:ρ (.tmp 65)=_:=hf 65 (by decide);have e66:ρ (.tmp 66)=_:=hf 66 (by decide);have e71:ρ (.tmp 71)=_:=hf 71 (by decide);(conv=>lhs;simp[execOp,go_sem,hc,e65,e66,e71,hs0,hs1,hs2,hs3,hs4,hs5,hA9])) ?_
     refine T3.w_is (fun _ w=>Below.refl _ w) rfl _ (.inl rfl) (fun ρ w hC hc hfn hf=>by have e72:ρ (.tmp 72)=_:=hf 72 (by decide);(conv=>lhs;simp[execOp,go_sem,hc,e72,hcv w hC])) ?_
     refine T3.w_is (fun _ w=>Below.refl _ w) rfl _ (.inl rfl) (fun ρ w hC hc hfn hf=>by have e55:ρ (.tmp 55)=_:=hf 55 (by decide);have e58:ρ (.tmp 58)=_:=hf 58 (by decide);have e61:ρ (.tmp 61)=_:=hf 61 (by decide);have e64:ρ (.tmp 64)=_:=hf 64 (by decide);have e73:ρ (.tmp 73)=_:=hf 73 (by decide);(conv=>lhs;simp[execOp,go_sem,hc,e55,e58,e61,e64,e73])) ?_
     refine T3.w_make rfl (NewPV wr) (NewPV.keeps wr 22) (.inl rfl) (fun ρ w hC hc hfn hf=>by exact⟨_,_,by (conv=>lhs;simp[execOp,go_sem]),hC.alloc hC.size _,xr.alloc xl _,⟨_,rfl,hC.size,za1 w 0 0 0 0 ⟨#[]⟩ 48 _ rfl⟩⟩) ?_
     intro A V5 hC hn hd hf
     obtain⟨ga,y13,hga,KW⟩:=(show NewPV wr (A.eval (.tmp 13)) V5 from hf 13)
     have y0:=yA (hf 0)
     have y1:=yA (hf 1)
     have y2:=yA (hf 2)
     have y3:=yA (hf 3)
     have y4:=yA (hf 4)
     have y5:=yA (hf 5)
     have y6:=yA (hf 6)
     have y7:=yA (hf 7)
     have y8:=yA (hf 8)
     have y9:=yA (hf 9)
     have y10:=yA (hf 10)
     have y11:=yA (hf 11)
     have y12:=yA (hf 12)
     have y14:=yA (hf 14)
     have y15:=yA (hf 15)
     have y16:=yA (hf 16)
     have y17:=yA (hf 17)
     have y18:=yA (hf 18)
     have y19:=yA (hf 19)
     have y20:=yA (hf 20)
     have y21:=yA (hf 21)
     have y22:=yA (hf 22)
     have y23:=yA (hf 23)
     have y24:=yA (hf 24)
     have y25:=yA (hf 25)
     have y26:=yA (hf 26)
     have y27:=yA (hf 27)
     have y28:=yA (hf 28)
     have y29:=yA (hf 29)
     have y30:=yA (hf 30)
     have y31:=yA (hf 31)
     have y32:=yA (hf 32)
     have y33:=yA (hf 33)
     have y34:=yA (hf 34)
     have y35:=yA (hf 35)
     have y36:=yA (hf 36)
     have y37:=yA (hf 37)
     have y38:=yA (hf 38)
     have y39:=yA (hf 39)
     have y40:=yA (hf 40)
     have y41:=yA (hf 41)
     have y42:=yA (hf 42)
     have y43:=yA (hf 43)
     have y44:=yA (hf 44)
     have y45:=yA (hf 45)
     have y46:=yA (hf 46)
     have y47:=yA (hf 47)
     have y48:=yA (hf 48)
     have y49:=yA (hf 49)
     have y50:=yA (hf 50)
     have y51:=yA (hf 51)
     have y52:=yA (hf 52)
     have y53:=yB (hf 53)
     have y54:=yB (hf 54)
     have y55:=yB (hf 55)
     have y56:=yB (hf 56)
     have y57:=yB (hf 57)
     have y58:=yB (hf 58)
     have y59:=yB (hf 59)
     have y60:=yB (hf 60)
     have y61:=yB (hf 61)
     have y62:=yB (hf 62)
     have y63:=yB (hf 63)
     have y64:=yB (hf 64)
     have y65:=yB (hf 65)
     have y66:=yB (hf 66)
     have y67:=yB (hf 67)
     have y68:=yB (hf 68)
     have y69:=yB (hf 69)
     have y70:=yB (hf 70)
     have y71:=yB (hf 71)
     have y72:=yB (hf 72)
     have y73:=yB (hf 73)
     have y74:=yB (hf 74)
     have y75:=yA (hf 75)
     have y76:=yA (hf 76)
     have y77:=yA (hf 77)
     have y78:=yA (hf 78)
     have y79:=yA (hf 79)
     have y80:=yA (hf 80)
     have y81:=yA (hf 81)
     have y82:=yA (hf 82)
     have y83:=yA (hf 83)
     have y84:=yA (hf 84)
     clear hf
     have hA:=zaL hn
     rw[show List.range 85=[0,1,2,3,4,5,6,7,8,9,10,11,12,13,14,15,16,17,18,19,20,21,22,23,24,25,26,27,28,29,30,31,32,33,34,35,36,37,38,39,40,41,42,43,44,45,46,47,48,49,50,51,52,53,54,55,56,57,58,59,60,61,62,63,64,65,66,67,68,69,70,71,72,73,74,75,76,77,78,79,80,81,82,83,84]from rfl,hd]at hA
     simp only[List.map_cons,List.map_nil,y0,y1,y2,y3,y4,y5,y6,y7,y8,y9,y10,y11,y12,y13,y14,y15,y16,y17,y18,y19,y20,y21,y22,y23,y24,y25,y26,y27,y28,y29,y30,y31,y32,y33,y34,y35,y36,y37,y38,y39,y40,y41,y42,y43,y44,y45,y46,y47,y48,y49,y50,y51,y52,y53,y54,y55,y56,y57,y58,y59,y60,y61,y62,y63,y64,y65,y66,y67,y68,y69,y70,y71,y72,y73,y74,y75,y76,y77,y78,y79,y80,y81,y82,y83,y84]at hA
     clear y0 y1 y2 y3 y4 y5 y6 y7 y8 y9 y10 y11 y12 y13 y14 y15 y16 y17 y18 y19 y20 y21 y22 y23 y24 y25 y26 y27 y28 y29 y30 y31 y32 y33 y34 y35 y36 y37 y38 y39 y40 y41 y42 y43 y44 y45 y46 y47 y48 y49 y50 y51 y52 y53 y54 y55 y56 y57 y58 y59 y60 y61 y62 y63 y64 y65 y66 y67 y68 y69 y70 y71 y72 y73 y74 y75 y76 y77 y78 y79 y80 y81 y82 y83 y84
     clear hn hd
     subst hA
     have OP:=xh (KW.set m0 m1 m2 m3 X)
     have hb6:Below wr.heap.size wr (put5 V5 ga m0 m1 m2 m3 X):=zbE hC hga m0 m1 m2 m3 X
     have OR5:=xh (OR.out.below hb6)
     have HB5:Hid (Below w.heap.size w (put5 V5 ga m0 m1 m2 m3 X)):=HB.out.trans (hb6.mono HB.out.size)
     have HQ5:=xh (kc _ hb6).2.2.2.2
     obtain⟨⟨t0,t1,t2,t3,t4⟩,tf⟩:=KW
     clear kc hC q0 q1 q2 q3 q4 r0 r1 r2 r3 r4 rf hcv OR HB hA9 hb6 hga
     obtain⟨V6,hV6⟩:∃V6,put5 V5 ga m0 m1 m2 m3 X=V6:=⟨_,rfl⟩
     rw[hV6]at OP OR5 HB5 HQ5
     simp only[put5]at hV6
     obtain⟨Q,hQ⟩:∃Q:Bool,Q=true↔PkOk m0 m1 m2 m3 X:=⟨decide (PkOk m0 m1 m2 m3 X),decide_eq_true_iff⟩
     have cR:=fun W=>zde m0 m1 m2 m3 X Q hQ W
     have HQ:=xh hQ
     clear hQ
     obtain⟨⟨u0_,u1_,u2_,u3_,u4_⟩,-⟩:=OP.out
     go_wp2_with fail
     clear hV6 t0 t1 t2 t3 t4 tf u0_ u1_ u2_ u3_ u4_
     refine(cR _).mono ?_
     rintro e V7 ⟨rfl,hb⟩
     have OR:=xh (OR5.out.below hb)
     have HB:=xh (HB5.out.trans (hb.mono HB5.out.size))
     have OP7:=xh (OP.out.below hb)
     have q4:=(hb.cell (World.block_lt_of_cell? _ _ HQ5.out)).trans HQ5.out
     clear hb cR OR5 HB5
     cases Q with
     | false=>
      have HR4:Hid (pkPF xs q=.inl 4):=by show _=_;rw[HR3.out,if_neg (fun h=>by cases HQ.out.2 h)]
      obtain⟨⟨r0,r1,r2,r3,r4⟩,rf⟩:=OR.out
      go_wp2_with fail
      rw[←HG.out]
      rw[←HG.out]at OR
      have hs:=(OR.out.set 0 0 0 0 ⟨#[]⟩).1
      have hbs:=zbE (b:=w.heap.size) HB.out xl 0 0 0 0 ⟨#[]⟩
      simp only[put5]at hs hbs
      generalize (xC V7 w.heap.size xH:World)=W5 at*
      obtain⟨s0_,s1_,s2_,s3_,s4_⟩:=hs
      exact bodyPost_ret (v:=.tuple #[.agg xH,xI 0,xI 4]) (by simp[results,Tryz.results61,go_sem,s0_,s1_,s2_,s3_,s4_]) rfl ⟨by rw[HR4.out];rfl,hbs⟩
     | true=>
      have HR4:Hid (pkPF xs q=.inr ((m0,m1,m2,m3,X),(p:Int)+k)):=by show _=_;rw[HR3.out,if_pos (HQ.out.1 rfl)]
      obtain⟨⟨r0,r1,r2,r3,r4⟩,rf⟩:=OR.out
      obtain⟨⟨t0,t1,t2,t3,t4⟩,tf⟩:=OP7.out
      go_wp2_with fail
      have hne:b4≠g:=by have:=HB4.out;omega
      have hne':g≠b4:=hne.symm
      go_region
      all_goals
       go_wp2_with fail
       have hs:=(OR.out.set m0 m1 m2 m3 X).1
       have hbs:=zbE (B:=w.heap.size) (b:=g) HB.out (Nat.le_of_eq HG.out) m0 m1 m2 m3 X
       simp only[put5]at hs hbs
       generalize (xC V7 g (xA m0 m1 m2 m3 (.string X)):World)=W5 at*
       obtain⟨s0_,s1_,s2_,s3_,s4_⟩:=hs
       exact bodyPost_ret (v:=.tuple #[.agg (xA m0 m1 m2 m3 (.string X)),xI ((p:Int)+(k:Int)),xI 0]) (by simp[results,Tryz.results61,go_sem,s0_,s1_,s2_,s3_,s4_]) rfl ⟨by rw[HR4.out];rfl,hbs.drew⟩
def byP (s d t n:Int)(x:ByteArray):List Int:=if PkOk s d t n x then pkB s d t n x else[]
def kP (s d t n:Int)(x:ByteArray):Int:=if PkOk s d t n x then 0 else 1
theorem OwnP.onl {w w':World}{b g:Nat}{s d t n:Int}{x:ByteArray}(h:OwnP w g s d t n x)(ho:Onl b w w')(hg:g≠b):OwnP w' g s d t n x:=by
 obtain⟨⟨h0,h1,h2,h3,h4⟩,hf⟩:=h
 have hl:=World.block_lt_of_cell? w _ h0
 have f:∀{j:Nat} {v:Value},w.cell? ⟨g,j,none⟩=some v→w'.cell? ⟨g,j,none⟩=some v:=fun{j v} h=>(ho.cell (p:=⟨g,j,none⟩) hg hl).trans h
 exact⟨⟨f h0,f h1,f h2,f h3,f h4⟩,fun j=>(ho.frozen (p:=⟨g,j,none⟩) hg hl).trans (hf j)⟩
theorem OwnP.set4 {w:World}{b:Nat}{s d t n:Int}{x:ByteArray}(h:OwnP w b s d t n x)(x':ByteArray):OwnP (w.setCell (xQ b 4) (.string x')) b s d t n x':=by
 obtain⟨⟨h0,h1,h2,h3,h4⟩,hf⟩:=h
 refine⟨⟨?_,?_,?_,?_,?_⟩,fun j=>?_⟩<;>simp[go_sem,hf,h0,h1,h2,h3,h4]
theorem zge (b:Nat)(s d t n:Int)(x:ByteArray)(ok:Bool)(at' e0 e1:Int)(w:World)(h:Rd w b at' e0)(hn:zai e0 ok=e1)(he:e1≠0):
  Calls Tryz.prog 120 #[xP b,.agg (xA s d t n (.string x)),.bool ok] w fun e w'=>e=.returned (.tuple #[.agg xH,xI 0,xI e1])∧Onl b w w':=by
 have hne:(e1==0)=false:=by simpa using he
 have hlt:=World.block_lt_of_cell? w _ h.1
 have hb0:Below w.heap.size w ((w.alloc (.cells (xA s d t n (.string x)) 48)).alloc (.cells xH 48)):=(xr.alloc xl _).alloc (by simp) _
 have cN:=zay b ok at' e0 ((w.alloc (.cells (xA s d t n (.string x)) 48)).alloc (.cells xH 48)) (h.below hb0)
 rw[hn]at cN
 have OB:=xh (za1 (w.alloc (.cells (xA s d t n (.string x)) 48)) 0 0 0 0 ⟨#[]⟩ 48 (w.heap.size+1) (by simp))
 have HB:=xh (Onl.of_below b hb0)
 have HL:Hid (b<w.heap.size):=hlt
 clear h hn he hlt hb0
 go_enter Tryz.func120,Tryz.ntmps120
 go_wp2_with (go_at_call 57;refine cN.mono ?_;rintro e w1 ⟨rfl,hR,hO⟩;replace OB:=xh (OB.out.onl hO (by have:=HL.out;omega));replace HB:=xh (HB.out.trans hO);have R:=xh hR;clear hO hR;obtain⟨z0,z1,zf⟩:=R.out)
 have OB2:=xh (OB.out.below (xr.alloc xl (.cells xH 48)))
 have OZ:=xh (za1 w1 0 0 0 0 ⟨#[]⟩ 48 w1.heap.size rfl)
 have R2:=xh (R.out.alloc (.cells xH 48))
 have HB2:=xh (HB.out.alloc (.cells xH 48))
 have hne2:Hid (w.heap.size+1<w1.heap.size):=OB.out.lt
 clear z0 z1 zf R OB HB
 generalize w1.alloc (.cells xH 48)=V at*
 obtain⟨z0,z1,zf⟩:=R2.out
 obtain⟨⟨q0,q1,q2,q3,q4⟩,qf⟩:=OZ.out
 obtain⟨⟨u0,u1,u2,u3,u4⟩,uf⟩:=OB2.out
 have hd1:b≠w.heap.size+1:=by have:=HL.out;omega
 have hd2:w.heap.size+1≠b:=by have:=HL.out;omega
 go_region
 go_wp2_with fail
 have hs:=(OB2.out.set 0 0 0 0 ⟨#[]⟩).1
 have hbs:=zbE (B:=w.heap.size) (Below.refl _ V) (b:=w.heap.size+1) (by omega) 0 0 0 0 ⟨#[]⟩
 simp only[put5]at hs hbs
 generalize (xC V (w.heap.size+1) xH:World)=W5 at*
 obtain⟨s0_,s1_,s2_,s3_,s4_⟩:=hs
 exact bodyPost_ret (v:=.tuple #[.agg xH,xI 0,xI e1]) (by simp[results,Tryz.results120,go_sem,s0_,s1_,s2_,s3_,s4_]) rfl ⟨rfl,HB2.out.then hbs.drew xl⟩
theorem zlh (b:Nat)(s d t n:Int)(x:ByteArray)(at':Int)(w:World)(h:Rd w b at' 0):
  Calls Tryz.prog 120 #[xP b,.agg (xA s d t n (.string x)),.bool true] w fun e w'=>e=.returned (.tuple #[.agg (xA s d t n (.string x)),xI at',xI 0])∧Onl b w w':=by
 have hlt:=World.block_lt_of_cell? w _ h.1
 have hb0:Below w.heap.size w ((w.alloc (.cells (xA s d t n (.string x)) 48)).alloc (.cells xH 48)):=(xr.alloc xl _).alloc (by simp) _
 have cN:=zay b true at' 0 ((w.alloc (.cells (xA s d t n (.string x)) 48)).alloc (.cells xH 48)) (h.below hb0)
 rw[show zai 0 true=0 from rfl]at cN
 have OA:=xh ((za1 w s d t n x 48 w.heap.size rfl).below (xr.alloc xl (.cells xH 48)))
 have OB:=xh (za1 (w.alloc (.cells (xA s d t n (.string x)) 48)) 0 0 0 0 ⟨#[]⟩ 48 (w.heap.size+1) (by simp))
 have HB:=xh (Onl.of_below b hb0)
 have HL:Hid (b<w.heap.size):=hlt
 clear h hlt hb0
 go_enter Tryz.func120,Tryz.ntmps120
 go_wp2_with (go_at_call 57;refine cN.mono ?_;rintro e w1 ⟨rfl,hR,hO⟩;replace OB:=xh (OB.out.onl hO (by have:=HL.out;omega));replace OA:=xh (OA.out.onl hO (by have:=HL.out;omega));replace HB:=xh (HB.out.trans hO);have R:=xh hR;clear hO hR;obtain⟨z0,z1,zf⟩:=R.out)
 obtain⟨⟨q0,q1,q2,q3,q4⟩,qf⟩:=OA.out
 obtain⟨⟨u0,u1,u2,u3,u4⟩,uf⟩:=OB.out
 have hd1:b≠w.heap.size+1:=by have:=HL.out;omega
 have hd2:w.heap.size+1≠b:=by have:=HL.out;omega
 go_region
 go_wp2_with fail
 have hs:=(OB.out.set s d t n x).1
 have hbs:=zbE (B:=w.heap.size) (Below.refl _ w1) (b:=w.heap.size+1) (by omega) s d t n x
 simp only[put5]at hs hbs
 generalize (xC w1 (w.heap.size+1) (xA s d t n (.string x)):World)=W5 at*
 obtain⟨s0_,s1_,s2_,s3_,s4_⟩:=hs
 exact bodyPost_ret (v:=.tuple #[.agg (xA s d t n (.string x)),xI at',xI 0]) (by simp[results,Tryz.results120,go_sem,s0_,s1_,s2_,s3_,s4_]) rfl ⟨rfl,HB.out.then hbs.drew xl⟩
def zdT (xs:List Int)(k n:Int):ByteArray×Int×Int:=if(xs.length:Int)-k<n then(⟨#[]⟩,0,6)else(sub xs k n,k+n,0)
def zd4 (xs:List Int)(n:Int)(s:Int×Int):ByteArray×Int×Int:=if s.2=0 then zdT xs s.1 n else(⟨#[]⟩,s)
theorem zkS (v:Value)(xs:List Int)(k n:Int)(w:World)(hv:Bs w v xs)(hk:1≤k∧k≤xs.length)(hn:0≤n∧n≤65535):
  Calls Tryz.prog 119 #[v,xI k,xI n] w fun e w'=>e=.returned (.tuple #[.string (zdT xs k n).1,xI (zdT xs k n).2.1,xI (zdT xs k n).2.2])∧w=w':=by
 obtain⟨a,l,c,rfl⟩:=zal hv
 obtain⟨rfl,hlc⟩:=za0 hv
 have hsw:IntKind.i64.wrap ((xs.length:Int)-k)=(xs.length:Int)-k:=by rw[IntKind.wrap_i64];have:=hv.2.1;omega
 by_cases k2:(xs.length:Int)-k<n
 ·have k2':decide ((xs.length:Int)-k<n)=true:=decide_eq_true k2
  rw[show zdT xs k n=(⟨#[]⟩,0,6)from if_pos k2]
  clear hv hk hn hlc
  go_enter Tryz.func119,Tryz.ntmps119
  go_wp2_with fail
  go_ret3
  exact⟨rfl,rfl⟩
 ·have k2':decide ((xs.length:Int)-k<n)=false:=decide_eq_false k2
  rw[show zdT xs k n=(sub xs k n,k+n,0)from if_neg k2]
  obtain⟨p,rfl⟩:∃p:Nat,k=p:=⟨k.toNat,by omega⟩
  obtain⟨m,rfl⟩:∃m:Nat,n=m:=⟨n.toNat,by omega⟩
  have hpk:p+m≤xs.length:=by omega
  have h7:1≤xs.length:=by omega
  obtain⟨b,o,rfl,hcap⟩:∃b o,a=some ⟨b,o,none⟩∧xs.length≤c:=by
   obtain⟨_,_,⟨a',c',h1,_,rfl⟩|⟨b,o,c',h1,h2,_⟩⟩:=hv
   ·simp at h7
   ·simp only[Value.slice.injEq,true_and]at h1;exact⟨b,o,h1.1,by omega⟩
  have HW9:=xh (zcY hv p m hpk hcap)
  obtain⟨X,hX⟩:∃X,strOfNums ((xs.drop p).take m)=X:=⟨_,rfl⟩
  have hsub:sub xs p m=X:=by rw[←hX];rfl
  rw[hsub]
  obtain⟨A9,hA9⟩:∃A9,(if c=p then(some ⟨b,o,none⟩:Option Addr)else some ⟨b,o+p,none⟩)=A9:=⟨_,rfl⟩
  rw[hA9]at HW9
  have hcv:(convert 26 9 (.slice A9 m (c-p))).run Tryz.prog w=.ok (.string X) w:=by rw[←hX];exact zeq HW9.out
  have hwk:IntKind.i64.wrap ((p:Int)+(m:Int))=(p:Int)+(m:Int):=by rw[IntKind.wrap_i64];have:=hv.2.1;omega
  have hs0:(0:Int)≤(p:Int):=Int.natCast_nonneg _
  have hs1:(p:Int)≤(p:Int)+(m:Int):=by omega
  have hs2:(p:Int)+(m:Int)≤(c:Int):=by omega
  have hs3:((p:Int)).toNat=p:=Int.toNat_natCast p
  have hs4:((p:Int)+(m:Int)).toNat=p+m:=by omega
  have hs5:p+m-p=m:=by omega
  clear hX hsub HW9 h7 hpk hv hk hn hlc
  go_enter Tryz.func119,Tryz.ntmps119
  go_wp2_with fail
  go_ret3
  exact⟨rfl,rfl⟩
theorem zjS (g:Nat)(v:Value)(xs:List Int)(k n:Int)(w:World)(hn:w.cell? (xQ g 0)=xJ n)(hv:Bs w v xs)(hk:1≤k∧k≤xs.length)(hn':0≤n∧n≤65535):
  Calls Tryz.prog 118 #[v,xI k,xP g] w fun e w'=>e=.returned (.tuple #[.string (zdT xs k n).1,xI (zdT xs k n).2.1,xI (zdT xs k n).2.2])∧w=w':=by
 have cG:=zkS v xs k n w hv hk hn'
 generalize zdT xs k n=r at*
 obtain⟨r1,r2,r3⟩:=r
 simp only at*
 obtain⟨a,l,c,rfl⟩:=zal hv
 clear hv hk hn'
 go_enter Tryz.func118,Tryz.ntmps118
 go_wp2_with (go_at_call 119;refine cG.mono ?_;rintro e w' ⟨rfl,hw⟩;subst hw)
 go_ret3
 exact⟨rfl,rfl⟩
theorem zjw (b:Nat)(v:Value)(xs:List Int)(k e0:Int)(g:Nat)(n:Int)(w:World)(h:Rd w b k e0)(hn:w.cell? (xQ g 0)=xJ n)(hv:Bs w v xs)(hk:e0=0→(1≤k∧k≤xs.length)∧0≤n∧n≤65535):
  Calls Tryz.prog 117 #[xP b,v,xW 118 g] w fun e w'=>e=.returned (.string (zd4 xs n (k,e0)).1)∧Rd w' b (zd4 xs n (k,e0)).2.1 (zd4 xs n (k,e0)).2.2∧Onl b w w':=by
 by_cases he:e0=0
 ·subst he
  have cG:=zjS g v xs k n w hn hv (hk rfl).1 (hk rfl).2
  rw[show zd4 xs n (k,0)=zdT xs k n from if_pos rfl]
  generalize zdT xs k n=r at*
  obtain⟨r1,r2,r3⟩:=r
  simp only at*
  obtain⟨a,l,c,rfl⟩:=zal hv
  have R:=xh h
  obtain⟨h0,h1,hf⟩:=h
  clear hv hk
  go_enter Tryz.func117,Tryz.ntmps117
  go_wp2_with (go_at_call 118;refine cG.mono ?_;rintro e w' ⟨rfl,hw⟩;subst hw)
  go_ret
  exact⟨rfl,R.out.set _ _,((Onl.refl _ _).set 0 _).set 1 _⟩
 ·have hne:(e0==0)=false:=by simpa using he
  rw[show zd4 xs n (k,e0)=(⟨#[]⟩,(k,e0))from if_neg he]
  obtain⟨a,l,c,rfl⟩:=zal hv
  have R:=xh h
  obtain⟨h0,h1,hf⟩:=h
  clear hv hk he
  go_enter Tryz.func117,Tryz.ntmps117
  go_wp2_with fail
  go_ret
  exact⟨rfl,R.out,Onl.refl _ _⟩
end Go.Proofs.YtjghebcnmoojmaaGreat
