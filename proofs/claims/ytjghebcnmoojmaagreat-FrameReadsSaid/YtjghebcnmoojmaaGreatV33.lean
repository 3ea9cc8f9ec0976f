/- Acks out of bytes: -/
import Derived.Test.YtjghebcnmoojmaaGreatV11
import Derived.OwnWalk
set_option maxRecDepth 100000
set_option maxHeartbeats 32000000
namespace Go.Proofs.YtjghebcnmoojmaaGreat
open Go.RowKit MX
theorem zj0 {ops:Array Oper}{o:Oper}{a:Act}{W:World}{K:Act→World→Prop}{Q:Exit→Act→World→Prop}{E:Prop}(hg:o.guard=none)(s x:Operand)
  (ho:o.op=.call {callee:=.builtin .append,args:=#[s,x],argTypes:=#[46,46]}) (w1:World) (r0 r1 r2 r3:Int) (hW:W=w1.alloc (.cells #[xI r0,xI r1,xI r2,xI r3] 120)) (S:Nat) (v:Value) (xs:List (Int×Int×Int×Int))
  (hs:a.eval s=v) (hx:a.eval x=.slice (some (w1.heap.size,0)) 1 1) (hown:w1.ownsRow S 120 4 v xs.length (aflat xs)) (hl:xs.length≤3000) (hS:S≤w1.heap.size)
  (hK:∀g cap w',w'.ownsRow S 120 4 (.slice (some (xQ g 0)) (xs.length+1) cap) (xs++[(r0,r1,r2,r3)]).length (aflat (xs++[(r0,r1,r2,r3)]))→Below S w1 w'→K (a.put o.dst (.slice (some (xQ g 0)) (xs.length+1) cap)) w'):
  if Region.wanted o (yielded ops a.tmps)=true then Oper.wp Tryz.prog o a W K Q else E:=
 zj9 (R:=RA) hg s x ho w1 (r0,r1,r2,r3) 120 hW S v xs hs hx hown hl hS hK
theorem zji (xs:List Int)(q:Int)(j:Nat):(List.range (j+1)).map (rdV xs q)=(List.range j).map (rdV xs q)++[rdV xs q j]:=by
 rw[List.range_succ,List.map_append];rfl
theorem zg4 (v:Value)(xs:List Int)(at':Int)(w:World)(hv:Bs w v xs):
  Calls Tryz.prog 60 #[v,xI at'] w fun e w'=>(∃u t k,e=.returned (.tuple #[u,xI t,xI k])∧zmm w (acPF xs at') u t k w')∧Below w.heap.size w w':=by
 have HX:=xh hv.1
 have HV:=xh hv
 obtain⟨⟨m1,m2,m3⟩,hm⟩:∃m,getS xs at' 1=m:=⟨_,rfl⟩
 have c2:=xh (zaF v xs at' 1 w hv)
 rw[hm]at c2
 simp only[tri]at c2
 have HM:=zds HX.out at'
 rw[hm]at HM
 have HMM:=xh hm
 clear hv hm
 have hm0:0≤m1:=HM.1
 have hm2:m1≤255:=HM.2
 clear HM
 go_enter Tryz.func60,Tryz.ntmps60
 go_wp2_with fail
 refine c2.out.mono ?_
 rintro e w1 ⟨rfl,hw⟩
 subst hw
 by_cases h3:m3=0
 ·have h3':(m3 !=0)=false:=by simpa using h3
  have H3:=xh h3
  clear h3 c2
  go_wp2_with fail
  go_loopw [1,9,10] (fun p l i wr=>∃(k:Nat) (q:Int) (acc:List (Int×Int×Int×Int)),(k:Int)≤m1∧i=xI k∧p=xI q∧wr.ownsRow w.heap.size 120 4 l acc.length (aflat acc)∧acc.length≤k∧akP xs (m1.toNat-k) q acc=akP xs m1.toNat m2 []∧Below w.heap.size w wr) (fun _ _ i _=>m1.toNat-(intOf i).toNat)
  case atStart=>exact⟨0,m2,[],hm0,rfl,rfl,zhS _ _,Nat.le_refl _,rfl,Below.refl _ _⟩
  case round=>
   obtain⟨k,q,acc,hk,rfl,rfl,hrow,hal,hec,hbel⟩:=hrel
   obtain⟨a3,c3,rfl⟩:=zap hrow
   have OW:=xh hrow
   have HAC:=xh hal
   have HEC:=xh hec
   have HW:=xh hbel
   clear hrow hal hec hbel
   by_cases hlt:(k:Int)<m1
   ·obtain⟨g,hg⟩:∃g,wr.heap.size=g:=⟨_,rfl⟩
    have hz:∀i,i<4→(wr.alloc (.cells #[xI 1,xI 4,xI 2,xI 2] 3)).cell? ⟨g,i,none⟩=xJ (szA i):=fun i hi=>by
     subst hg
     have:i=0∨i=1∨i=2∨i=3:=by omega
     rcases this with rfl|rfl|rfl|rfl<;>simp[szA]
    obtain⟨V,hVe⟩:∃V,wr.alloc (.cells #[xI 1,xI 4,xI 2,xI 2] 3)=V:=⟨_,rfl⟩
    have hbV:Below wr.heap.size wr V:=by rw[←hVe];exact(Below.refl _ wr).alloc xl _
    have hsV:V.heap.size=g+1:=by rw[←hVe,←hg];simp
    go_wp2_with fail
    try rw[hVe]
    try rw[hg]
    rw[hVe]at hz
    have HZ:=xh hz
    have HBV:=xh hbV
    have HSV:=xh hsV
    have HG:=xh hg
    clear hz hbV hsV hVe hg
    obtain⟨wo,hwo⟩:∃wo,wo=wr:=⟨_,rfl⟩
    subst hwo
    go_loopw [1,11,13] (fun p out i wi=>∃(j:Nat) (vs:Value),j≤4∧vs=out∧i=xI j∧p=xI (rdP xs q j)∧(∀i,i<j→rdE xs q i=0)∧wi.ownsRow (g+1) 3 1 vs ((List.range j).map (rdV xs q)).length (((List.range j).map (rdV xs q)).map (Value.int .i64))∧Below (g+1) V wi) (fun _ _ i _=>4-(intOf i).toNat)
    case atStart=>exact⟨0,_,Nat.zero_le _,rfl,rfl,rfl,fun i h=>absurd h (Nat.not_lt_zero _),World.ownsRow_nil _ _ _ _,Below.refl _ _⟩
    case round=>
     obtain⟨j,vs,hj,rfl,rfl,rfl,he,hvs,hbi⟩:=hrel
     have HE:=xh he
     have HVS:=xh hvs
     have HBI:=xh hbi
     have HVW:Hid (Bs V v xs):=zaa HV.out (HW.out.trans (HBV.out.mono HW.out.size))
     have HVI:Hid (Bs _ v xs):=zaa HVW.out (by rw[HSV.out];exact hbi)
     have HWI:Hid (Below wo.heap.size wo _):=HBV.out.trans (hbi.mono (by have:=HG.out;omega))
     clear he hvs hbi
     by_cases hlj:j<4
     ·obtain⟨⟨n1,n2,n3⟩,hn⟩:∃n,getS xs (rdP xs q j) (szA j)=n:=⟨_,rfl⟩
      have d2:=xh (zaF v xs (rdP xs q j) (szA j) wr HVI.out)
      rw[hn]at d2
      simp only[tri]at d2
      have N1:Hid (rdV xs q j=n1):=by show _=_;unfold rdV;rw[hn]
      have N2:Hid (rdP xs q (j+1)=n2):=by show _=_;rw[rdP,hn]
      have N3:Hid (rdE xs q j=n3):=by show _=_;unfold rdE;rw[hn]
      have z0:=(HBI.out.cell (p:=⟨g,j,none⟩) (Nat.lt_succ_self g)).trans (HZ.out j hlj)
      have HGW:Hid (g+1≤wr.heap.size):=by have:=HBI.out.size;rw[HSV.out]at this;exact this
      obtain⟨P,hP⟩:∃P,rdP xs q j=P:=⟨_,rfl⟩
      obtain⟨Z,hZe⟩:∃Z,szA j=Z:=⟨_,rfl⟩
      obtain⟨L,hL⟩:∃L,(List.range j).map (rdV xs q)=L:=⟨_,rfl⟩
      have hLl:L.length=j:=by rw[←hL];simp
      rw[hL]at HVS
      rw[hP,hZe]at d2
      rw[hZe]at z0
      rw[hP]
      have HL:=xh hL
      have HLL:=xh hLl
      clear hn hP hZe hL hLl
      go_wp2_with fail
      refine d2.out.mono ?_
      rintro e w5 ⟨rfl,hw⟩
      subst hw
      by_cases h6:n3=0
      ·have h6':(n3 !=0)=false:=by simpa using h6
       have H6:=xh h6
       clear h6 d2
       go_wp2_with (at_builtin;(skip;refine zhZ rfl (.tmp 51) (.tmp 53) rfl (g+1) L [n1] (HVS.out.alloc _) (zjU wr [n1] 3 _ 1 rfl rfl (by simp) _ rfl) (by have:=HLL.out;simp;omega) (by simp;exact Nat.le_of_lt HGW.out) ?_;intro v2 w2 hown2 hb2 hs2 hn2;have O2:=xh hown2;have HB2:=xh hb2;clear hown2 hb2 hs2 hn2))
       go_roundw
       case rel=>
        refine⟨j+1,_,by omega,rfl,by go_num,by rw[N2.out],fun i hi=>?_,by rw[zji,N1.out,HL.out];exact O2.out,(HBI.out.alloc HGW.out _).trans HB2.out⟩
        by_cases h:i<j
        ·exact HE.out i h
        ·obtain rfl:i=j:=by omega
         rw[N3.out];exact H6.out
       case measure=>simp[intOf];omega
      ·have h6':(n3 !=0)=true:=by simpa using h6
       have H6:=xh h6
       clear h6 d2
       go_wp2_with fail
       go_ret3
       refine⟨⟨_,_,_,rfl,?_⟩,HW.out.trans (HWI.out.mono HW.out.size)⟩
       have hst:akP xs (m1.toNat-k) q acc=.inl n3:=by
        rw[show m1.toNat-k=(m1.toNat-(k+1))+1 by omega,znh hlj HE.out (by rw[N3.out];exact H6.out),N3.out]
       unfold acPF
       simp only[HMM.out]
       rw[if_neg (not_not_intro H3.out),←HEC.out,hst]
       exact⟨rfl,rfl,rfl⟩
     ·obtain rfl:j=4:=by omega
      have hL:(List.range 4).map (rdV xs q)=[rdV xs q 0,rdV xs q 1,rdV xs q 2,rdV xs q 3]:=rfl
      have HST:Hid (akP xs (m1.toNat-k) q acc=akP xs (m1.toNat-(k+1)) (rdP xs q 4) (acc++[(rdV xs q 0,rdV xs q 1,rdV xs q 2,rdV xs q 3)])):=by
       show _=_
       rw[show m1.toNat-k=(m1.toNat-(k+1))+1 by omega,zmJ HE.out]
      obtain⟨r0,h0⟩:∃r,rdV xs q 0=r:=⟨_,rfl⟩
      obtain⟨r1,h1⟩:∃r,rdV xs q 1=r:=⟨_,rfl⟩
      obtain⟨r2,h2⟩:∃r,rdV xs q 2=r:=⟨_,rfl⟩
      obtain⟨r3,h3⟩:∃r,rdV xs q 3=r:=⟨_,rfl⟩
      obtain⟨P4,hP4⟩:∃P,rdP xs q 4=P:=⟨_,rfl⟩
      have hvs:=HVS.out
      rw[hL,h0,h1,h2,h3]at hvs
      rw[h0,h1,h2,h3,hP4]at HST
      rw[hP4]
      clear hL h0 h1 h2 h3 hP4 HVS
      obtain⟨b4,c4,hv4,hb4⟩:∃b c,vs=.slice (some (xQ b 0)) 4 c∧g+1≤b:=by
       rcases hvs.2 with ⟨_,h⟩|⟨b,cap,cur,h1,h2,_⟩
       ·simp at h
       ·exact⟨b,cap,h1,h2⟩
      subst hv4
      have q0:=zbf hvs 0 (by decide)
      have q1:=zbf hvs 1 (by decide)
      have q2:=zbf hvs 2 (by decide)
      have q3:=zbf hvs 3 (by decide)
      simp only[List.map_cons,List.map_nil,List.getElem?_cons_zero,List.getElem?_cons_succ]at q0 q1 q2 q3
      have hROWo:∀b,Value.ownBlock (.slice a3 acc.length c3)=some b→b<g:=fun b hb=>by have:=(OW.out.lt b hb).2;have h9:=HG.out;omega
      have hgs:g≤wr.heap.size:=by have:=HBI.out.size;rw[HSV.out]at this;omega
      have hROW:∀b,Value.ownBlock (.slice a3 acc.length c3)=some b→b<wr.heap.size:=fun b hb=>Nat.lt_of_lt_of_le (hROWo b hb) hgs
      have hOWN:wr.ownsRow w.heap.size 120 4 (.slice a3 acc.length c3) acc.length (aflat acc):=zae OW.out HWI.out
      have HOWN:Hid (wr.drew.ownsRow w.heap.size 120 4 (.slice a3 acc.length c3) acc.length (aflat acc)):=zae hOWN xr.drew
      have HWW:Hid (Below w.heap.size w wr):=HW.out.trans (HWI.out.mono HW.out.size)
      have HXL:Hid (acc.length≤3000):=by have:=HAC.out;show _≤_;omega
      have HSS:Hid (w.heap.size≤wr.drew.heap.size):=HWW.out.drew.size
      clear hvs hROWo hROW hOWN hgs
      go_wp2_with fail
      go_region_law (refine zj0 (by rfl) (.tmp 56) (.tmp 70) (by rfl) wr.drew r0 r1 r2 r3 rfl w.heap.size (.slice a3 acc.length c3) acc (by rfl) (by rfl) HOWN.out HXL.out HSS.out ?_;intro gq cq w3 hown hb;have OQ:=xh hown;have HB3:=xh (HWW.out.drew.trans hb);clear hown hb)
      all_goals
       go_wp2_with fail
       go_roundw
       case rel=>
        exact⟨k+1,P4,acc++[(r0,r1,r2,r3)],by omega,by go_num,rfl,OQ.out,by simp;exact HAC.out,by rw[←HEC.out,HST.out],HB3.out⟩
       case measure=>simp[intOf];omega
   ·have hkm:m1.toNat-k=0:=by omega
    have HDN:Hid (akP xs m1.toNat m2 []=.inr (acc,q)):=by show _=_;rw[←HEC.out,hkm];rfl
    have HAL2:Hid (acc.length≤3000):=by have:=HAC.out;show _≤_;omega
    clear hkm
    obtain⟨qq,hq⟩:∃qq:Bool,qq=true↔zbq acc:=⟨decide (zbq acc),decide_eq_true_iff⟩
    have HQ:=xh hq
    clear hq
    go_wp2_with fail
    refine(zc7 _ acc qq HQ.out _ (zeC OW.out).1 HAL2.out).mono ?_
    rintro e w3 ⟨rfl,hb3⟩
    have HB3:=xh (HW.out.trans (hb3.mono HW.out.size))
    have OW3:=xh (zae OW.out hb3)
    clear hb3
    cases qq with
    | false=>
     have HN:Hid (¬zbq acc):=fun h=>by cases HQ.out.2 h
     go_wp2_with fail
     go_ret3
     exact⟨⟨_,_,_,rfl,by unfold acPF;simp only[HMM.out];rw[if_neg (not_not_intro H3.out),HDN.out];simp only;rw[if_neg HN.out];exact⟨rfl,rfl,rfl⟩⟩,HB3.out⟩
    | true=>
     have HP:Hid (zbq acc):=HQ.out.1 rfl
     go_wp2_with fail
     go_ret3
     exact⟨⟨_,_,_,rfl,by unfold acPF;simp only[HMM.out];rw[if_neg (not_not_intro H3.out),HDN.out];simp only;rw[if_pos HP.out];exact⟨rfl,rfl,OW3.out⟩⟩,HB3.out⟩
 ·have h3':(m3 !=0)=true:=by simpa using h3
  have H3:=xh h3
  clear h3
  go_wp2_with fail
  go_ret3
  exact⟨⟨_,_,_,rfl,by unfold acPF;simp only[HMM.out];rw[if_pos H3.out];exact⟨rfl,rfl,rfl⟩⟩,Below.refl _ _⟩
end Go.Proofs.YtjghebcnmoojmaaGreat
