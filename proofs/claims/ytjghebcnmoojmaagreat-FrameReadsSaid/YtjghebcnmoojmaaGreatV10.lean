/- Which rows of acks are right: Whether Ids rise; -/
import Derived.Test.YtjghebcnmoojmaaGreatV08
set_option maxRecDepth 100000
set_option maxHeartbeats 32000000
namespace Go.Proofs.YtjghebcnmoojmaaGreat
open Go.RowKit MX
def AkAt (ys:List (Int×Int×Int×Int))(i:Nat):Prop:=zcr (ys.getD i (0,0,0,0))∧(0<i→(ys.getD (i-1) (0,0,0,0)).1<(ys.getD i (0,0,0,0)).1)
instance (ys:List (Int×Int×Int×Int))(i:Nat):Decidable (AkAt ys i):=by unfold AkAt;infer_instance
def zbq (ys:List (Int×Int×Int×Int)):Prop:=(∀i,i<ys.length→AkAt ys i)∧1≤ys.length∧ys.length≤64
instance (ys:List (Int×Int×Int×Int)):Decidable (zbq ys):=by unfold zbq;infer_instance
theorem zc7 (v:Value)(ys:List (Int×Int×Int×Int))(Q:Bool)(hQ:Q=true↔zbq ys)(w:World)(hy:As w v ys)(hl:ys.length≤3000):
  Calls Tryz.prog 70 #[v] w fun e w'=>e=.returned (.bool Q)∧Below w.heap.size w w':=by
 obtain⟨a,c,rfl⟩:=hy.form
 have HQ:=xh hQ
 have HY:=xh hy
 clear hy hQ
 go_enter Tryz.func70,Tryz.ntmps70
 go_wp2_with fail
 go_loopw [3] (fun i wr=>∃k:Nat,k≤ys.length∧i=xI k∧(∀i,i<k→AkAt ys i)∧Below w.heap.size w wr) (fun i _=>ys.length-(intOf i).toNat)
 case atStart=>exact⟨0,Nat.zero_le _,rfl,fun i h=>absurd h (Nat.not_lt_zero _),Below.refl _ _⟩
 case round=>
  obtain⟨k,hk,rfl,hok,hbel⟩:=hrel
  have HO:=xh hok
  have HW:=xh hbel
  clear hok hbel
  by_cases hlt:k<ys.length
  ·have YV:=xh (HY.out.below HW.out)
   obtain⟨b,off,rfl,hB,p0⟩:=YV.out.at hlt
   obtain⟨⟨y1,y2,y3,y4⟩,hyk⟩:∃y,ys.getD k (0,0,0,0)=y:=⟨_,rfl⟩
   rw[hyk]at p0
   have P0:=xh p0
   have HK:=xh hyk
   clear hyk p0
   go_wp2_with fail
   obtain⟨q,hq⟩:∃q:Bool,q=true↔zcr (y1,y2,y3,y4):=⟨decide (zcr (y1,y2,y3,y4)),decide_eq_true_iff⟩
   have cE:=fun w=>zlR y1 y2 y3 y4 q hq w
   have HE:=xh hq
   clear hq
   have fin:¬AkAt ys k→Hid (Q=false):=fun h=>by
    cases hq:Q with
    | false=>rfl
    | true=>exact absurd ((HQ.out.1 hq).1 k hlt) h
   cases q with
   | false=>
    have F:=fin (fun h=>by have h2:=h.1;rw[HK.out]at h2;exact absurd (HE.out.2 h2) (by decide))
    clear fin
    have kc:∀w',Below wr.heap.size wr w'→Cells4a w' b (off+k*4) (y1,y2,y3,y4):=fun w' h=>P0.out.below h
    simp only[Cells4a]at kc
    refine zaf (C:=fun w'=>Below wr.heap.size wr w') (X:=fun w w'=>Below w.heap.size w w') (n:=42) (by kernel_rfl) (by kernel_rfl) rfl (fun w=>Below.refl _ w) xr.drew ?_
    refine wA 0 ?_
    refine wA 3 ?_
    refine wE 10 11 hlt ?_
    refine wC 12 kc ?_
    refine za8 (Is _) (fun _ _ _ h _=>h) 89 (.inl rfl) (fun ρ w hC hc hfn hf=>by have e13:ρ (.tmp 13)=_:=hf 13 (by decide);exact⟨_,by (conv=>lhs;simp[execOp,resolve,invoke,go_sem,hc,hfn,e13]),za9 hC (cE w)⟩) ?_
    refine wA 14 ?_
    refine wA 15 ?_
    refine wK ?_
    refine wK ?_
    refine wK ?_
    refine wU ?_
    refine wU ?_
    refine wU ?_
    refine wU ?_
    refine wU ?_
    refine wU ?_
    refine wU ?_
    refine wU ?_
    refine wU ?_
    refine wU ?_
    refine wU ?_
    refine wU ?_
    refine wK ?_
    refine wB 16 32 ?_
    intro A V5 hC hn hd hf
    have y0:=yA (hf 0)
    have y1:=yA (hf 1)
    have y2:=yA (hf 2)
    have y3:=yA (hf 3)
    have y4:=yA (hf 4)
    have y5:=yA (hf 5)
    have y6:=yA (hf 6)
    have y7:=yA (hf 7)
    have y8:=yA (hf 8)
    have y9:=yA (hf 9)
    have y10:=yB (hf 10)
    have y11:=yB (hf 11)
    have y12:=yB (hf 12)
    have y13:=yB (hf 13)
    have y14:=yB (hf 14)
    have y15:=yB (hf 15)
    have y16:=yB (hf 16)
    have y17:=yB (hf 17)
    have y18:=yB (hf 18)
    have y19:=yB (hf 19)
    have y20:=yB (hf 20)
    have y21:=yB (hf 21)
    have y22:=yB (hf 22)
    have y23:=yB (hf 23)
    have y24:=yB (hf 24)
    have y25:=yB (hf 25)
    have y26:=yB (hf 26)
    have y27:=yB (hf 27)
    have y28:=yB (hf 28)
    have y29:=yB (hf 29)
    have y30:=yB (hf 30)
    have y31:=yB (hf 31)
    have y32:=yB (hf 32)
    have y33:=yB (hf 33)
    have y34:=yA (hf 34)
    have y35:=yA (hf 35)
    have y36:=yA (hf 36)
    have y37:=yA (hf 37)
    have y38:=yA (hf 38)
    have y39:=yA (hf 39)
    have y40:=yA (hf 40)
    have y41:=yA (hf 41)
    clear hf
    have hA:=zaL hn
    rw[show List.range 42=[0,1,2,3,4,5,6,7,8,9,10,11,12,13,14,15,16,17,18,19,20,21,22,23,24,25,26,27,28,29,30,31,32,33,34,35,36,37,38,39,40,41]from rfl,hd]at hA
    simp only[List.map_cons,List.map_nil,y0,y1,y2,y3,y4,y5,y6,y7,y8,y9,y10,y11,y12,y13,y14,y15,y16,y17,y18,y19,y20,y21,y22,y23,y24,y25,y26,y27,y28,y29,y30,y31,y32,y33,y34,y35,y36,y37,y38,y39,y40,y41]at hA
    clear y0 y1 y2 y3 y4 y5 y6 y7 y8 y9 y10 y11 y12 y13 y14 y15 y16 y17 y18 y19 y20 y21 y22 y23 y24 y25 y26 y27 y28 y29 y30 y31 y32 y33 y34 y35 y36 y37 y38 y39 y40 y41
    clear hn hd
    subst hA
    go_wp2_with fail
    go_ret
    exact⟨by rw[F.out];rfl,HW.out.trans (hC.mono HW.out.size)⟩
   | true=>
    by_cases g3:0<k
    ·have hkm:k-1<ys.length:=by omega
     obtain⟨hB9,r0⟩:=YV.out.all hkm
     obtain⟨⟨z1,z2,z3,z4⟩,hzk⟩:∃z,ys.getD (k-1) (0,0,0,0)=z:=⟨_,rfl⟩
     rw[hzk]at r0
     have R0:=xh r0
     have HZ:=xh hzk
     clear hzk r0
     have hk1:(1:Int)≤(k:Int):=by omega
     have hk2:(k:Int)-1<(ys.length:Int):=by omega
     have hkn:((k:Int)-1).toNat=k-1:=by omega
     have hkw:IntKind.i64.wrap ((k:Int)-1)=(k:Int)-1:=by rw[IntKind.wrap_i64];omega
     have kc:∀w',Below wr.heap.size wr w'→Cells4a w' b (off+k*4) (y1,y2,y3,y4)∧w'.cell? ⟨b,off+(k-1)*4,none⟩=xJ z1:=fun w' h=>⟨P0.out.below h,(R0.out.below h).1⟩
     simp only[Cells4a]at kc
     by_cases g4:y1≤z1
     ·have F:=fin (fun h=>by have h2:=h.2 g3;rw[HK.out,HZ.out]at h2;simp only at h2;omega)
      clear fin
      refine zaf (C:=fun w'=>Below wr.heap.size wr w') (X:=fun w w'=>Below w.heap.size w w') (n:=42) (by kernel_rfl) (by kernel_rfl) rfl (fun w=>Below.refl _ w) xr.drew ?_
      refine wA 0 ?_
      refine wA 3 ?_
      refine wE 10 11 hlt ?_
      refine wC 12 kc ?_
      refine za8 (Is _) (fun _ _ _ h _=>h) 89 (.inl rfl) (fun ρ w hC hc hfn hf=>by have e13:ρ (.tmp 13)=_:=hf 13 (by decide);exact⟨_,by (conv=>lhs;simp[execOp,resolve,invoke,go_sem,hc,hfn,e13]),za9 hC (cE w)⟩) ?_
      refine wA 14 ?_
      refine wA 15 ?_
      refine wA 3 ?_
      refine wD 17 g3 ?_
      refine wA 18 ?_
      refine wA 0 ?_
      refine wA 3 ?_
      refine wA 21 ?_
      refine w_is (fun w=>Below.refl _ w) _ (.inr ⟨9,19,true,rfl,rfl,zaI rfl⟩) (fun ρ w hC hc hfn hf=>by have e20:ρ (.tmp 20)=_:=hf 20 (by decide);have e22:ρ (.tmp 22)=_:=hf 22 (by decide);(conv=>lhs;simp[execOp,go_sem,hc,e20,e22,hkw,hk1,hk2,hkn])) ?_
      refine wA 23 ?_
      refine wC 24 kc ?_
      refine wA 0 ?_
      refine wA 3 ?_
      refine wE 26 27 hlt ?_
      refine wA 28 ?_
      refine wC 29 kc ?_
      refine wE 25 30 g4 ?_
      refine wB 19 31 ?_
      refine wB 16 32 ?_
      intro A V5 hC hn hd hf
      have y0:=yA (hf 0)
      have y1:=yA (hf 1)
      have y2:=yA (hf 2)
      have y3:=yA (hf 3)
      have y4:=yA (hf 4)
      have y5:=yA (hf 5)
      have y6:=yA (hf 6)
      have y7:=yA (hf 7)
      have y8:=yA (hf 8)
      have y9:=yA (hf 9)
      have y10:=yB (hf 10)
      have y11:=yB (hf 11)
      have y12:=yB (hf 12)
      have y13:=yB (hf 13)
      have y14:=yB (hf 14)
      have y15:=yB (hf 15)
      have y16:=yB (hf 16)
      have y17:=yB (hf 17)
      have y18:=yB (hf 18)
      have y19:=yB (hf 19)
      have y20:=yB (hf 20)
      have y21:=yB (hf 21)
      have y22:=yB (hf 22)
      have y23:=yB (hf 23)
      have y24:=yB (hf 24)
      have y25:=yB (hf 25)
      have y26:=yB (hf 26)
      have y27:=yB (hf 27)
      have y28:=yB (hf 28)
      have y29:=yB (hf 29)
      have y30:=yB (hf 30)
      have y31:=yB (hf 31)
      have y32:=yB (hf 32)
      have y33:=yB (hf 33)
      have y34:=yA (hf 34)
      have y35:=yA (hf 35)
      have y36:=yA (hf 36)
      have y37:=yA (hf 37)
      have y38:=yA (hf 38)
      have y39:=yA (hf 39)
      have y40:=yA (hf 40)
      have y41:=yA (hf 41)
      clear hf
      have hA:=zaL hn
      rw[show List.range 42=[0,1,2,3,4,5,6,7,8,9,10,11,12,13,14,15,16,17,18,19,20,21,22,23,24,25,26,27,28,29,30,31,32,33,34,35,36,37,38,39,40,41]from rfl,hd]at hA
      simp only[List.map_cons,List.map_nil,y0,y1,y2,y3,y4,y5,y6,y7,y8,y9,y10,y11,y12,y13,y14,y15,y16,y17,y18,y19,y20,y21,y22,y23,y24,y25,y26,y27,y28,y29,y30,y31,y32,y33,y34,y35,y36,y37,y38,y39,y40,y41]at hA
      clear y0 y1 y2 y3 y4 y5 y6 y7 y8 y9 y10 y11 y12 y13 y14 y15 y16 y17 y18 y19 y20 y21 y22 y23 y24 y25 y26 y27 y28 y29 y30 y31 y32 y33 y34 y35 y36 y37 y38 y39 y40 y41
      clear hn hd
      subst hA
      go_wp2_with fail
      go_ret
      exact⟨by rw[F.out];rfl,HW.out.trans (hC.mono HW.out.size)⟩
     ·have HA:Hid (AkAt ys k):=⟨by rw[HK.out];exact HE.out.1 rfl,fun _=>by rw[HK.out,HZ.out];simp only;omega⟩
      clear fin
      refine zaf (C:=fun w'=>Below wr.heap.size wr w') (X:=fun w w'=>Below w.heap.size w w') (n:=42) (by kernel_rfl) (by kernel_rfl) rfl (fun w=>Below.refl _ w) xr.drew ?_
      refine wA 0 ?_
      refine wA 3 ?_
      refine wE 10 11 hlt ?_
      refine wC 12 kc ?_
      refine za8 (Is _) (fun _ _ _ h _=>h) 89 (.inl rfl) (fun ρ w hC hc hfn hf=>by have e13:ρ (.tmp 13)=_:=hf 13 (by decide);exact⟨_,by (conv=>lhs;simp[execOp,resolve,invoke,go_sem,hc,hfn,e13]),za9 hC (cE w)⟩) ?_
      refine wA 14 ?_
      refine wA 15 ?_
      refine wA 3 ?_
      refine wD 17 g3 ?_
      refine wA 18 ?_
      refine wA 0 ?_
      refine wA 3 ?_
      refine wA 21 ?_
      refine w_is (fun w=>Below.refl _ w) _ (.inr ⟨9,19,true,rfl,rfl,zaI rfl⟩) (fun ρ w hC hc hfn hf=>by have e20:ρ (.tmp 20)=_:=hf 20 (by decide);have e22:ρ (.tmp 22)=_:=hf 22 (by decide);(conv=>lhs;simp[execOp,go_sem,hc,e20,e22,hkw,hk1,hk2,hkn])) ?_
      refine wA 23 ?_
      refine wC 24 kc ?_
      refine wA 0 ?_
      refine wA 3 ?_
      refine wE 26 27 hlt ?_
      refine wA 28 ?_
      refine wC 29 kc ?_
      refine wE 25 30 g4 ?_
      refine wB 19 31 ?_
      refine wB 16 32 ?_
      intro A V5 hC hn hd hf
      have y0:=yA (hf 0)
      have y1:=yA (hf 1)
      have y2:=yA (hf 2)
      have y3:=yA (hf 3)
      have y4:=yA (hf 4)
      have y5:=yA (hf 5)
      have y6:=yA (hf 6)
      have y7:=yA (hf 7)
      have y8:=yA (hf 8)
      have y9:=yA (hf 9)
      have y10:=yB (hf 10)
      have y11:=yB (hf 11)
      have y12:=yB (hf 12)
      have y13:=yB (hf 13)
      have y14:=yB (hf 14)
      have y15:=yB (hf 15)
      have y16:=yB (hf 16)
      have y17:=yB (hf 17)
      have y18:=yB (hf 18)
      have y19:=yB (hf 19)
      have y20:=yB (hf 20)
      have y21:=yB (hf 21)
      have y22:=yB (hf 22)
      have y23:=yB (hf 23)
      have y24:=yB (hf 24)
      have y25:=yB (hf 25)
      have y26:=yB (hf 26)
      have y27:=yB (hf 27)
      have y28:=yB (hf 28)
      have y29:=yB (hf 29)
      have y30:=yB (hf 30)
      have y31:=yB (hf 31)
      have y32:=yB (hf 32)
      have y33:=yB (hf 33)
      have y34:=yA (hf 34)
      have y35:=yA (hf 35)
      have y36:=yA (hf 36)
      have y37:=yA (hf 37)
      have y38:=yA (hf 38)
      have y39:=yA (hf 39)
      have y40:=yA (hf 40)
      have y41:=yA (hf 41)
      clear hf
      have hA:=zaL hn
      rw[show List.range 42=[0,1,2,3,4,5,6,7,8,9,10,11,12,13,14,15,16,17,18,19,20,21,22,23,24,25,26,27,28,29,30,31,32,33,34,35,36,37,38,39,40,41]from rfl,hd]at hA
      simp only[List.map_cons,List.map_nil,y0,y1,y2,y3,y4,y5,y6,y7,y8,y9,y10,y11,y12,y13,y14,y15,y16,y17,y18,y19,y20,y21,y22,y23,y24,y25,y26,y27,y28,y29,y30,y31,y32,y33,y34,y35,y36,y37,y38,y39,y40,y41]at hA
      clear y0 y1 y2 y3 y4 y5 y6 y7 y8 y9 y10 y11 y12 y13 y14 y15 y16 y17 y18 y19 y20 y21 y22 y23 y24 y25 y26 y27 y28 y29 y30 y31 y32 y33 y34 y35 y36 y37 y38 y39 y40 y41
      clear hn hd
      subst hA
      go_wp2_with fail
      go_roundw
      case rel=>
       refine⟨k+1,by omega,by go_num,fun j hj=>?_,HW.out.trans (hC.mono HW.out.size)⟩
       by_cases h:j<k
       ·exact HO.out j h
       ·obtain rfl:j=k:=by omega
        exact HA.out
      case measure=>simp[intOf];omega
    ·obtain rfl:k=0:=by omega
     have HA:Hid (AkAt ys 0):=⟨by rw[HK.out];exact HE.out.1 rfl,fun h=>absurd h (Nat.lt_irrefl 0)⟩
     clear fin g3
     have kc:∀w',Below wr.heap.size wr w'→Cells4a w' b (off+0*4) (y1,y2,y3,y4):=fun w' h=>P0.out.below h
     simp only[Cells4a,Nat.zero_mul,Nat.add_zero]at kc
     refine zaf (C:=fun w'=>Below wr.heap.size wr w') (X:=fun w w'=>Below w.heap.size w w') (n:=42) (by kernel_rfl) (by kernel_rfl) rfl (fun w=>Below.refl _ w) xr.drew ?_
     refine wA 0 ?_
     refine wA 3 ?_
     refine wE 10 11 hlt ?_
     refine wC 12 kc ?_
     refine za8 (Is _) (fun _ _ _ h _=>h) 89 (.inl rfl) (fun ρ w hC hc hfn hf=>by have e13:ρ (.tmp 13)=_:=hf 13 (by decide);exact⟨_,by (conv=>lhs;simp[execOp,resolve,invoke,go_sem,hc,hfn,e13]),za9 hC (cE w)⟩) ?_
     refine wA 14 ?_
     refine wA 15 ?_
     refine wA 3 ?_
     refine wA 17 ?_
     refine wA 18 ?_
     refine wK ?_
     refine wK ?_
     refine wK ?_
     refine wK ?_
     refine wK ?_
     refine wK ?_
     refine wK ?_
     refine wK ?_
     refine wK ?_
     refine wK ?_
     refine wK ?_
     refine wK ?_
     refine wB 19 31 ?_
     refine wB 16 32 ?_
     intro A V5 hC hn hd hf
     have y0:=yA (hf 0)
     have y1:=yA (hf 1)
     have y2:=yA (hf 2)
     have y3:=yA (hf 3)
     have y4:=yA (hf 4)
     have y5:=yA (hf 5)
     have y6:=yA (hf 6)
     have y7:=yA (hf 7)
     have y8:=yA (hf 8)
     have y9:=yA (hf 9)
     have y10:=yB (hf 10)
     have y11:=yB (hf 11)
     have y12:=yB (hf 12)
     have y13:=yB (hf 13)
     have y14:=yB (hf 14)
     have y15:=yB (hf 15)
     have y16:=yB (hf 16)
     have y17:=yB (hf 17)
     have y18:=yB (hf 18)
     have y19:=yB (hf 19)
     have y20:=yB (hf 20)
     have y21:=yB (hf 21)
     have y22:=yB (hf 22)
     have y23:=yB (hf 23)
     have y24:=yB (hf 24)
     have y25:=yB (hf 25)
     have y26:=yB (hf 26)
     have y27:=yB (hf 27)
     have y28:=yB (hf 28)
     have y29:=yB (hf 29)
     have y30:=yB (hf 30)
     have y31:=yB (hf 31)
     have y32:=yB (hf 32)
     have y33:=yB (hf 33)
     have y34:=yA (hf 34)
     have y35:=yA (hf 35)
     have y36:=yA (hf 36)
     have y37:=yA (hf 37)
     have y38:=yA (hf 38)
     have y39:=yA (hf 39)
     have y40:=yA (hf 40)
     have y41:=yA (hf 41)
     clear hf
     have hA:=zaL hn
     rw[show List.range 42=[0,1,2,3,4,5,6,7,8,9,10,11,12,13,14,15,16,17,18,19,20,21,22,23,24,25,26,27,28,29,30,31,32,33,34,35,36,37,38,39,40,41]from rfl,hd]at hA
     simp only[List.map_cons,List.map_nil,y0,y1,y2,y3,y4,y5,y6,y7,y8,y9,y10,y11,y12,y13,y14,y15,y16,y17,y18,y19,y20,y21,y22,y23,y24,y25,y26,y27,y28,y29,y30,y31,y32,y33,y34,y35,y36,y37,y38,y39,y40,y41]at hA
     clear y0 y1 y2 y3 y4 y5 y6 y7 y8 y9 y10 y11 y12 y13 y14 y15 y16 y17 y18 y19 y20 y21 y22 y23 y24 y25 y26 y27 y28 y29 y30 y31 y32 y33 y34 y35 y36 y37 y38 y39 y40 y41
     clear hn hd
     subst hA
     go_wp2_with fail
     go_roundw
     case rel=>
      refine⟨1,by omega,by go_num,fun j hj=>?_,HW.out.trans (hC.mono HW.out.size)⟩
      obtain rfl:j=0:=by omega
      exact HA.out
     case measure=>simp[intOf];omega
  ·obtain rfl:k=ys.length:=by omega
   have HE:Hid (Q=(decide (1≤ys.length)&&decide (ys.length≤64))):=by
    have h1:=HQ.out
    unfold zbq at h1
    show Q=_
    rw[Bool.eq_iff_iff,h1,Bool.and_eq_true,decide_eq_true_iff,decide_eq_true_iff]
    exact⟨fun h=>h.2,fun h=>⟨HO.out,h⟩⟩
   by_cases h1:1≤ys.length
   ·have h1':(1:Int)≤(ys.length:Int):=by omega
    by_cases h2:ys.length≤64
    ·have h2':(ys.length:Int)≤64:=by omega
     have F:Hid (Q=true):=HE.out.trans (by simp[h1,h2])
     go_wp2_with fail
     go_ret
     exact⟨by rw[F.out];rfl,HW.out⟩
    ·have h2':decide ((ys.length:Int)≤64)=false:=decide_eq_false (by omega)
     have F:Hid (Q=false):=HE.out.trans (by simp[h2])
     go_wp2_with fail
     go_ret
     exact⟨by rw[F.out];rfl,HW.out⟩
   ·have h1':decide ((1:Int)≤(ys.length:Int))=false:=decide_eq_false (by omega)
    have F:Hid (Q=false):=HE.out.trans (by simp[h1])
    go_wp2_with fail
    go_ret
    exact⟨by rw[F.out];rfl,HW.out⟩
def preI (ys:List (Int×Int×Int×Int))(i:Nat):Int:=if i=0 then -1 else(ys.getD (i-1) (0,0,0,0)).1
def Rise (ys:List (Int×Int×Int×Int)):Prop:=∀i,i<ys.length→preI ys i<(ys.getD i (0,0,0,0)).1
instance (ys:List (Int×Int×Int×Int)):Decidable (Rise ys):=by unfold Rise;infer_instance
theorem zjr {ys:List (Int×Int×Int×Int)}(h:Rise ys):∀i,i<ys.length→(i:Int)≤(ys.getD i (0,0,0,0)).1
 | 0,hi=>by have:=h 0 hi;simp only[preI,if_true]at this;omega
 | i+1,hi=>by
  have h1:=zjr h i (by omega)
  have h2:=h (i+1) hi
  simp only[preI,Nat.add_sub_cancel]at h2
  rw[if_neg (by omega)]at h2
  omega
theorem zjQ (ys:List (Int×Int×Int×Int)):zbq ys↔ys.length≠0∧Rise ys∧∀i,i<ys.length→zcr (ys.getD i (0,0,0,0)):=by
 constructor
 ·rintro⟨h1,h2,h3⟩
  refine⟨by omega,fun i hi=>?_,fun i hi=>(h1 i hi).1⟩
  unfold preI
  by_cases h:i=0
  ·rw[if_pos h]
   have:=(h1 i hi).1.1.1
   omega
  ·rw[if_neg h];exact(h1 i hi).2 (by omega)
 ·rintro⟨h1,h2,h3⟩
  refine⟨fun i hi=>⟨h3 i hi,fun h=>?_⟩,by omega,?_⟩
  ·have:=h2 i hi
   unfold preI at this
   rwa [if_neg (by omega)]at this
  ·have h4:=zjr h2 (ys.length-1) (by omega)
   have h5:=(h3 (ys.length-1) (by omega)).1.2
   omega
theorem zix (v:Value)(ys:List (Int×Int×Int×Int))(Q:Bool)(hQ:Q=true↔Rise ys)(w:World)(hy:As w v ys)(hl:ys.length≤3000):
  Calls Tryz.prog 134 #[v] w fun e w'=>e=.returned (.bool Q)∧Below w.heap.size w w':=by
 obtain⟨a,c,rfl⟩:=hy.form
 have HQ:=xh hQ
 have HY:=xh hy
 clear hy hQ
 go_enter Tryz.func134,Tryz.ntmps134
 go_wp2_with fail
 go_loopw [3,8] (fun p i wr=>∃k:Nat,k≤ys.length∧i=xI k∧p=xI (preI ys k)∧(∀i,i<k→preI ys i<(ys.getD i (0,0,0,0)).1)∧Below w.heap.size w wr) (fun _ i _=>ys.length-(intOf i).toNat)
 case atStart=>exact⟨0,Nat.zero_le _,rfl,rfl,fun i h=>absurd h (Nat.not_lt_zero _),Below.refl _ _⟩
 case round=>
  obtain⟨k,hk,rfl,rfl,hok,hbel⟩:=hrel
  have HO:=xh hok
  have HW:=xh hbel
  clear hok hbel
  by_cases hlt:k<ys.length
  ·have YV:=xh (HY.out.below HW.out)
   obtain⟨b,off,rfl,hB,p0⟩:=YV.out.at hlt
   obtain⟨⟨y1,y2,y3,y4⟩,hyk⟩:∃y,ys.getD k (0,0,0,0)=y:=⟨_,rfl⟩
   have HS:Hid (preI ys (k+1)=y1):=by
    show _=_
    unfold preI
    rw[if_neg (by omega),Nat.add_sub_cancel,hyk]
   obtain⟨P,hP⟩:∃P,preI ys k=P:=⟨_,rfl⟩
   rw[hyk]at p0
   rw[hP]
   have HK:=xh hyk
   have HP:=xh hP
   have HA:Hid (Below w.heap.size w (wr.alloc (.cells #[xI y1,xI y2,xI y3,xI y4] 120))):=HW.out.alloc HW.out.size _
   clear hyk hP
   obtain⟨p0,p1,p2,p3⟩:=p0
   simp only at p0 p1 p2 p3
   by_cases g:y1≤P
   ·have F:Hid (Q=false):=by
     show Q=false
     cases hq:Q with
     | false=>rfl
     | true=>have h9:=(HQ.out.1 hq) k hlt;rw[HK.out,HP.out]at h9;simp only at h9;omega
    go_wp2_with fail
    go_ret
    exact⟨by rw[F.out];rfl,HA.out⟩
   ·have g':decide (y1≤P)=false:=decide_eq_false g
    go_wp2_with fail
    go_roundw
    case rel=>
     refine⟨k+1,by omega,by go_num,by rw[HS.out],fun j hj=>?_,HA.out⟩
     by_cases h:j<k
     ·exact HO.out j h
     ·obtain rfl:j=k:=by omega
      rw[HK.out,HP.out];simp only;omega
    case measure=>simp[intOf];omega
  ·obtain rfl:k=ys.length:=by omega
   have F:Hid (Q=true):=HQ.out.2 HO.out
   go_wp2_with fail
   go_ret
   exact⟨by rw[F.out];rfl,HW.out⟩
def errQ:Bool→Int
 | true=>0
 | false=>1
theorem zdd (v:Value)(ys:List (Int×Int×Int×Int))(Q:Bool)(hQ:Q=true↔zbq ys)(w:World)(hy:As w v ys)(hl:ys.length≤3000):
  Calls Tryz.prog 104 #[v] w fun e w'=>e=.returned (xI (errQ Q))∧Below w.heap.size w w':=by
 obtain⟨a,c,rfl⟩:=hy.form
 rw[zjQ]at hQ
 have HQ:=xh hQ
 have HY:=xh hy
 clear hQ
 by_cases h0:ys.length=0
 ·have F:Hid (Q=false):=by
   show Q=false
   cases hq:Q with
   | false=>rfl
   | true=>exact absurd h0 (HQ.out.1 hq).1
  have h0':((ys.length:Int)==0)=true:=by simp[h0]
  go_enter Tryz.func104,Tryz.ntmps104
  go_wp2_with fail
  go_ret
  exact⟨by rw[F.out];rfl,Below.refl _ _⟩
 ·have h0':((ys.length:Int)==0)=false:=beq_eq_false_iff_ne.2 (by omega)
  have HN:=xh h0
  obtain⟨q,hq⟩:∃q:Bool,q=true↔Rise ys:=⟨decide (Rise ys),decide_eq_true_iff⟩
  have CR:=xh (zix (.slice a ys.length c) ys q hq w hy hl)
  have HR:=xh hq
  clear hq hy
  go_enter Tryz.func104,Tryz.ntmps104
  go_wp2_with fail
  refine CR.out.mono ?_
  rintro e w2 ⟨rfl,hb⟩
  have HB:=xh hb
  clear hb CR h0'
  cases q with
  | false=>
   have F:Hid (Q=false):=by
    show Q=false
    cases hq:Q with
    | false=>rfl
    | true=>have h9:=HR.out.2 (HQ.out.1 hq).2.1;cases h9
   go_wp2_with fail
   go_ret
   exact⟨by rw[F.out];rfl,HB.out⟩
  | true=>
   have HR2:Hid (Rise ys):=HR.out.1 rfl
   go_wp2_with fail
   go_loopw [15] (fun i wr=>∃k:Nat,k≤ys.length∧i=xI k∧(∀i,i<k→zcr (ys.getD i (0,0,0,0)))∧Below w.heap.size w wr) (fun i _=>ys.length-(intOf i).toNat)
   case atStart=>exact⟨0,Nat.zero_le _,rfl,fun i h=>absurd h (Nat.not_lt_zero _),HB.out⟩
   case round=>
    obtain⟨k,hk,rfl,hok,hbel⟩:=hrel
    have HO:=xh hok
    have HW:=xh hbel
    clear hok hbel
    by_cases hlt:k<ys.length
    ·have YV:=xh (HY.out.below HW.out)
     obtain⟨b,off,rfl,hB,p0⟩:=YV.out.at hlt
     obtain⟨⟨y1,y2,y3,y4⟩,hyk⟩:∃y,ys.getD k (0,0,0,0)=y:=⟨_,rfl⟩
     rw[hyk]at p0
     have HK:=xh hyk
     have HA:Hid (Below w.heap.size w (wr.alloc (.cells #[xI y1,xI y2,xI y3,xI y4] 120))):=HW.out.alloc HW.out.size _
     obtain⟨q2,hq2⟩:∃q:Bool,q=true↔zcr (y1,y2,y3,y4):=⟨decide (zcr (y1,y2,y3,y4)),decide_eq_true_iff⟩
     have CO:=xh (fun W=>zi9 y1 y2 y3 y4 q2 hq2 W)
     have HE:=xh hq2
     clear hyk hq2
     obtain⟨p0,p1,p2,p3⟩:=p0
     simp only at p0 p1 p2 p3
     go_wp2_with fail
     refine(CO.out _).mono ?_
     rintro e w3 ⟨rfl,hb⟩
     have HB3:Hid (Below w.heap.size w w3):=HA.out.trans (hb.mono HA.out.size)
     clear hb
     cases q2 with
     | false=>
      have F:Hid (Q=false):=by
       show Q=false
       cases hq:Q with
       | false=>rfl
       | true=>have h9:=(HQ.out.1 hq).2.2 k hlt;rw[HK.out]at h9;have h8:=HE.out.2 h9;cases h8
      go_wp2_with fail
      go_ret
      exact⟨by rw[F.out];rfl,HB3.out⟩
     | true=>
      have HE2:Hid (zcr (y1,y2,y3,y4)):=HE.out.1 rfl
      go_wp2_with fail
      go_roundw
      case rel=>
       refine⟨k+1,by omega,by go_num,fun j hj=>?_,HB3.out⟩
       by_cases h:j<k
       ·exact HO.out j h
       ·obtain rfl:j=k:=by omega
        rw[HK.out];exact HE2.out
      case measure=>simp[intOf];omega
    ·obtain rfl:k=ys.length:=by omega
     have F:Hid (Q=true):=HQ.out.2 ⟨HN.out,HR2.out,HO.out⟩
     go_wp2_with fail
     go_ret
     exact⟨by rw[F.out];rfl,HW.out⟩
end Go.Proofs.YtjghebcnmoojmaaGreat
