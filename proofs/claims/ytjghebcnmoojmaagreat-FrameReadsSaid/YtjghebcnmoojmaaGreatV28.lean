/- Which batches are right: -/
import Derived.Test.YtjghebcnmoojmaaGreatV24
set_option maxRecDepth 100000
set_option maxHeartbeats 32000000
namespace Go.Proofs.YtjghebcnmoojmaaGreat
open Go.RowKit MX
section
open Go.Sort
theorem zmk (M:Int)(a:Option Addr)(c:Nat)(ys:List Ob)(w:World)(hy:Os w (.slice a ys.length c) ys)(_:ys.length≤3000)(hN:(M !=lft M)=true):
  Calls Tryz.prog 102 #[.agg #[xI M,.slice a ys.length c]] w fun e w'=>e=.returned (xI 1)∧Below w.heap.size w w':=by
 have cL:∀w,Calls Tryz.prog 127 #[xI M] w fun e w'=>e=.returned (xI (lft M))∧Below w.heap.size w w':=fun w=>zcL M w
 have HY:=xh (hy.alloc (.cells #[xI M,.slice a ys.length c] 45))
 have HB:Hid (Below w.heap.size w (w.alloc (.cells #[xI M,.slice a ys.length c] 45))):=xr.alloc xl _
 have k0:(w.alloc (.cells #[xI M,.slice a ys.length c] 45)).cell? (w.heap.size,0)=xJ M:=by simp
 have k1:(w.alloc (.cells #[xI M,.slice a ys.length c] 45)).cell? (w.heap.size,1)=some (.slice a ys.length c):=by simp
 clear hy
 go_enter Tryz.func102,Tryz.ntmps102
 go_wp2_with fail
 generalize w.alloc (.cells #[xI M,.slice a ys.length c] 45)=V1 at*
 have kc:∀w',Below V1.heap.size V1 w'→w'.cell? (w.heap.size,0)=xJ M∧w'.cell? (w.heap.size,1)=some (.slice a ys.length c):=fun w' h=>
  ⟨by rw[h.cell (World.block_lt_of_cell? V1 _ k0)];exact k0,by rw[h.cell (World.block_lt_of_cell? V1 _ k1)];exact k1⟩
 refine zaf (C:=fun w'=>Below V1.heap.size V1 w') (X:=fun w w'=>Below w.heap.size w w') (n:=28) (by kernel_rfl) (by kernel_rfl) rfl (fun w=>Below.refl _ w) xr.drew ?_
 refine wA 1 ?_
 refine wC 3 kc ?_
 refine wA 1 ?_
 refine wC 5 kc ?_
 refine za8 (Is _) (fun _ _ _ h _=>h) 127 (.inl rfl) (fun ρ w hC hc hfn hf=>by have e6:ρ (.tmp 6)=_:=hf 6 (by decide);exact⟨_,by (conv=>lhs;simp[execOp,resolve,invoke,go_sem,hc,hfn,e6]),za9 hC (cL w)⟩) ?_
 refine wE 4 7 hN ?_
 refine wA 8 ?_
 refine wK ?_
 refine wK ?_
 refine wK ?_
 refine wK ?_
 refine wK ?_
 refine wB 9 14 ?_
 refine wA 15 ?_
 refine wK ?_
 refine wK ?_
 refine wK ?_
 refine wK ?_
 refine wB 16 20 ?_
 refine wA 21 ?_
 refine wK ?_
 refine wK ?_
 refine wK ?_
 refine wK ?_
 refine wB 22 26 ?_
 intro A V5 hC hn hd hf
 have y0:=yA (hf 0)
 have y1:=yA (hf 1)
 have y2:=yA (hf 2)
 have y3:=yB (hf 3)
 have y4:=yB (hf 4)
 have y5:=yB (hf 5)
 have y6:=yB (hf 6)
 have y7:=yB (hf 7)
 have y8:=yB (hf 8)
 have y9:=yB (hf 9)
 have y10:=yB (hf 10)
 have y11:=yB (hf 11)
 have y12:=yB (hf 12)
 have y13:=yB (hf 13)
 have y14:=yB (hf 14)
 have y15:=yB (hf 15)
 have y16:=yB (hf 16)
 have y17:=yB (hf 17)
 have y18:=yB (hf 18)
 have y19:=yB (hf 19)
 have y20:=yB (hf 20)
 have y21:=yB (hf 21)
 have y22:=yB (hf 22)
 have y23:=yB (hf 23)
 have y24:=yB (hf 24)
 have y25:=yB (hf 25)
 have y26:=yB (hf 26)
 have y27:=yB (hf 27)
 clear hf
 have hA:=zaL hn
 rw[show List.range 28=[0,1,2,3,4,5,6,7,8,9,10,11,12,13,14,15,16,17,18,19,20,21,22,23,24,25,26,27]from rfl,hd]at hA
 simp only[List.map_cons,List.map_nil,y0,y1,y2,y3,y4,y5,y6,y7,y8,y9,y10,y11,y12,y13,y14,y15,y16,y17,y18,y19,y20,y21,y22,y23,y24,y25,y26,y27]at hA
 clear y0 y1 y2 y3 y4 y5 y6 y7 y8 y9 y10 y11 y12 y13 y14 y15 y16 y17 y18 y19 y20 y21 y22 y23 y24 y25 y26 y27
 clear hn hd
 subst hA
 go_wp2_with fail
 go_ret
 exact⟨rfl,HB.out.trans (hC.mono HB.out.size)⟩
theorem zk8 (M:Int)(a:Option Addr)(c:Nat)(ys:List Ob)(w:World)(hy:Os w (.slice a ys.length c) ys)(_:ys.length≤3000)(hN:(M !=lft M)=false)(hL:¬(1≤(ys.length:Int)∧(ys.length:Int)≤32)):
  Calls Tryz.prog 102 #[.agg #[xI M,.slice a ys.length c]] w fun e w'=>e=.returned (xI 1)∧Below w.heap.size w w':=by
 have cL:∀w,Calls Tryz.prog 127 #[xI M] w fun e w'=>e=.returned (xI (lft M))∧Below w.heap.size w w':=fun w=>zcL M w
 have cC:∀w,Calls Tryz.prog 112 #[xI ys.length] w fun e w'=>e=.returned (.bool false)∧w=w':=fun w=>by have h:=zcn ys.length w;rwa [decide_eq_false hL]at h
 have HY:=xh (hy.alloc (.cells #[xI M,.slice a ys.length c] 45))
 have HB:Hid (Below w.heap.size w (w.alloc (.cells #[xI M,.slice a ys.length c] 45))):=xr.alloc xl _
 have k0:(w.alloc (.cells #[xI M,.slice a ys.length c] 45)).cell? (w.heap.size,0)=xJ M:=by simp
 have k1:(w.alloc (.cells #[xI M,.slice a ys.length c] 45)).cell? (w.heap.size,1)=some (.slice a ys.length c):=by simp
 clear hy
 go_enter Tryz.func102,Tryz.ntmps102
 go_wp2_with fail
 generalize w.alloc (.cells #[xI M,.slice a ys.length c] 45)=V1 at*
 have kc:∀w',Below V1.heap.size V1 w'→w'.cell? (w.heap.size,0)=xJ M∧w'.cell? (w.heap.size,1)=some (.slice a ys.length c):=fun w' h=>
  ⟨by rw[h.cell (World.block_lt_of_cell? V1 _ k0)];exact k0,by rw[h.cell (World.block_lt_of_cell? V1 _ k1)];exact k1⟩
 refine zaf (C:=fun w'=>Below V1.heap.size V1 w') (X:=fun w w'=>Below w.heap.size w w') (n:=28) (by kernel_rfl) (by kernel_rfl) rfl (fun w=>Below.refl _ w) xr.drew ?_
 refine wA 1 ?_
 refine wC 3 kc ?_
 refine wA 1 ?_
 refine wC 5 kc ?_
 refine za8 (Is _) (fun _ _ _ h _=>h) 127 (.inl rfl) (fun ρ w hC hc hfn hf=>by have e6:ρ (.tmp 6)=_:=hf 6 (by decide);exact⟨_,by (conv=>lhs;simp[execOp,resolve,invoke,go_sem,hc,hfn,e6]),za9 hC (cL w)⟩) ?_
 refine wE 4 7 hN ?_
 refine wA 8 ?_
 refine wA 1 ?_
 refine wC 10 kc ?_
 refine wA 11 ?_
 refine za8 (Is _) (fun _ _ _ h _=>h) 112 (.inr ⟨6,9,false,rfl,rfl,zaI rfl⟩) (fun ρ w hC hc hfn hf=>by have e12:ρ (.tmp 12)=_:=hf 12 (by decide);exact⟨_,by (conv=>lhs;simp[execOp,resolve,invoke,go_sem,hc,hfn,e12]),zcH hC (cC w)⟩) ?_
 refine wA 13 ?_
 refine wB 9 14 ?_
 refine wA 15 ?_
 refine wK ?_
 refine wK ?_
 refine wK ?_
 refine wK ?_
 refine wB 16 20 ?_
 refine wA 21 ?_
 refine wK ?_
 refine wK ?_
 refine wK ?_
 refine wK ?_
 refine wB 22 26 ?_
 intro A V5 hC hn hd hf
 have y0:=yA (hf 0)
 have y1:=yA (hf 1)
 have y2:=yA (hf 2)
 have y3:=yB (hf 3)
 have y4:=yB (hf 4)
 have y5:=yB (hf 5)
 have y6:=yB (hf 6)
 have y7:=yB (hf 7)
 have y8:=yB (hf 8)
 have y9:=yB (hf 9)
 have y10:=yB (hf 10)
 have y11:=yB (hf 11)
 have y12:=yB (hf 12)
 have y13:=yB (hf 13)
 have y14:=yB (hf 14)
 have y15:=yB (hf 15)
 have y16:=yB (hf 16)
 have y17:=yB (hf 17)
 have y18:=yB (hf 18)
 have y19:=yB (hf 19)
 have y20:=yB (hf 20)
 have y21:=yB (hf 21)
 have y22:=yB (hf 22)
 have y23:=yB (hf 23)
 have y24:=yB (hf 24)
 have y25:=yB (hf 25)
 have y26:=yB (hf 26)
 have y27:=yB (hf 27)
 clear hf
 have hA:=zaL hn
 rw[show List.range 28=[0,1,2,3,4,5,6,7,8,9,10,11,12,13,14,15,16,17,18,19,20,21,22,23,24,25,26,27]from rfl,hd]at hA
 simp only[List.map_cons,List.map_nil,y0,y1,y2,y3,y4,y5,y6,y7,y8,y9,y10,y11,y12,y13,y14,y15,y16,y17,y18,y19,y20,y21,y22,y23,y24,y25,y26,y27]at hA
 clear y0 y1 y2 y3 y4 y5 y6 y7 y8 y9 y10 y11 y12 y13 y14 y15 y16 y17 y18 y19 y20 y21 y22 y23 y24 y25 y26 y27
 clear hn hd
 subst hA
 go_wp2_with fail
 go_ret
 exact⟨rfl,HB.out.trans (hC.mono HB.out.size)⟩
theorem zme (M:Int)(a:Option Addr)(c:Nat)(ys:List Ob)(w:World)(hy:Os w (.slice a ys.length c) ys)(hl:ys.length≤3000)(hN:(M !=lft M)=false)(hL:1≤(ys.length:Int)∧(ys.length:Int)≤32)(hR:¬zc8 ys):
  Calls Tryz.prog 102 #[.agg #[xI M,.slice a ys.length c]] w fun e w'=>e=.returned (xI 1)∧Below w.heap.size w w':=by
 have cL:∀w,Calls Tryz.prog 127 #[xI M] w fun e w'=>e=.returned (xI (lft M))∧Below w.heap.size w w':=fun w=>zcL M w
 have cC:∀w,Calls Tryz.prog 112 #[xI ys.length] w fun e w'=>e=.returned (.bool true)∧w=w':=fun w=>by have h:=zcn ys.length w;rwa [decide_eq_true hL]at h
 have HY:=xh (hy.alloc (.cells #[xI M,.slice a ys.length c] 45))
 have HB:Hid (Below w.heap.size w (w.alloc (.cells #[xI M,.slice a ys.length c] 45))):=xr.alloc xl _
 have k0:(w.alloc (.cells #[xI M,.slice a ys.length c] 45)).cell? (w.heap.size,0)=xJ M:=by simp
 have k1:(w.alloc (.cells #[xI M,.slice a ys.length c] 45)).cell? (w.heap.size,1)=some (.slice a ys.length c):=by simp
 clear hy
 go_enter Tryz.func102,Tryz.ntmps102
 go_wp2_with fail
 generalize w.alloc (.cells #[xI M,.slice a ys.length c] 45)=V1 at*
 have kc:∀w',Below V1.heap.size V1 w'→w'.cell? (w.heap.size,0)=xJ M∧w'.cell? (w.heap.size,1)=some (.slice a ys.length c):=fun w' h=>
  ⟨by rw[h.cell (World.block_lt_of_cell? V1 _ k0)];exact k0,by rw[h.cell (World.block_lt_of_cell? V1 _ k1)];exact k1⟩
 have cR:∀w',Below V1.heap.size V1 w'→Calls Tryz.prog 128 #[.slice a ys.length c] w' fun e w''=>e=.returned (.bool false)∧Below w'.heap.size w' w'':=fun w' hb=>by have h:=zcF (.slice a ys.length c) ys w' (HY.out.below hb) hl;rwa [decide_eq_false hR]at h
 refine zaf (C:=fun w'=>Below V1.heap.size V1 w') (X:=fun w w'=>Below w.heap.size w w') (n:=28) (by kernel_rfl) (by kernel_rfl) rfl (fun w=>Below.refl _ w) xr.drew ?_
 refine wA 1 ?_
 refine wC 3 kc ?_
 refine wA 1 ?_
 refine wC 5 kc ?_
 refine za8 (Is _) (fun _ _ _ h _=>h) 127 (.inl rfl) (fun ρ w hC hc hfn hf=>by have e6:ρ (.tmp 6)=_:=hf 6 (by decide);exact⟨_,by (conv=>lhs;simp[execOp,resolve,invoke,go_sem,hc,hfn,e6]),za9 hC (cL w)⟩) ?_
 refine wE 4 7 hN ?_
 refine wA 8 ?_
 refine wA 1 ?_
 refine wC 10 kc ?_
 refine wA 11 ?_
 refine za8 (Is _) (fun _ _ _ h _=>h) 112 (.inr ⟨6,9,false,rfl,rfl,zaI rfl⟩) (fun ρ w hC hc hfn hf=>by have e12:ρ (.tmp 12)=_:=hf 12 (by decide);exact⟨_,by (conv=>lhs;simp[execOp,resolve,invoke,go_sem,hc,hfn,e12]),zcH hC (cC w)⟩) ?_
 refine wA 13 ?_
 refine wB 9 14 ?_
 refine wA 15 ?_
 refine wA 1 ?_
 refine wC 17 kc ?_
 refine za8 (Is _) (fun _ _ _ h _=>h) 128 (.inr ⟨13,16,false,rfl,rfl,zaI rfl⟩) (fun ρ w hC hc hfn hf=>by have e18:ρ (.tmp 18)=_:=hf 18 (by decide);exact⟨_,by (conv=>lhs;simp[execOp,resolve,invoke,go_sem,hc,hfn,e18]),za9 hC (cR w hC)⟩) ?_
 refine wA 19 ?_
 refine wB 16 20 ?_
 refine wA 21 ?_
 refine wK ?_
 refine wK ?_
 refine wK ?_
 refine wK ?_
 refine wB 22 26 ?_
 intro A V5 hC hn hd hf
 have y0:=yA (hf 0)
 have y1:=yA (hf 1)
 have y2:=yA (hf 2)
 have y3:=yB (hf 3)
 have y4:=yB (hf 4)
 have y5:=yB (hf 5)
 have y6:=yB (hf 6)
 have y7:=yB (hf 7)
 have y8:=yB (hf 8)
 have y9:=yB (hf 9)
 have y10:=yB (hf 10)
 have y11:=yB (hf 11)
 have y12:=yB (hf 12)
 have y13:=yB (hf 13)
 have y14:=yB (hf 14)
 have y15:=yB (hf 15)
 have y16:=yB (hf 16)
 have y17:=yB (hf 17)
 have y18:=yB (hf 18)
 have y19:=yB (hf 19)
 have y20:=yB (hf 20)
 have y21:=yB (hf 21)
 have y22:=yB (hf 22)
 have y23:=yB (hf 23)
 have y24:=yB (hf 24)
 have y25:=yB (hf 25)
 have y26:=yB (hf 26)
 have y27:=yB (hf 27)
 clear hf
 have hA:=zaL hn
 rw[show List.range 28=[0,1,2,3,4,5,6,7,8,9,10,11,12,13,14,15,16,17,18,19,20,21,22,23,24,25,26,27]from rfl,hd]at hA
 simp only[List.map_cons,List.map_nil,y0,y1,y2,y3,y4,y5,y6,y7,y8,y9,y10,y11,y12,y13,y14,y15,y16,y17,y18,y19,y20,y21,y22,y23,y24,y25,y26,y27]at hA
 clear y0 y1 y2 y3 y4 y5 y6 y7 y8 y9 y10 y11 y12 y13 y14 y15 y16 y17 y18 y19 y20 y21 y22 y23 y24 y25 y26 y27
 clear hn hd
 subst hA
 go_wp2_with fail
 go_ret
 exact⟨rfl,HB.out.trans (hC.mono HB.out.size)⟩
theorem zlr (M:Int)(a:Option Addr)(c:Nat)(ys:List Ob)(w:World)(hy:Os w (.slice a ys.length c) ys)(hl:ys.length≤3000)(hN:(M !=lft M)=false)(hL:1≤(ys.length:Int)∧(ys.length:Int)≤32)(hR:zc8 ys)(hZ:(512:Int)<3+(osz ys:Int)):
  Calls Tryz.prog 102 #[.agg #[xI M,.slice a ys.length c]] w fun e w'=>e=.returned (xI 1)∧Below w.heap.size w w':=by
 have cL:∀w,Calls Tryz.prog 127 #[xI M] w fun e w'=>e=.returned (xI (lft M))∧Below w.heap.size w w':=fun w=>zcL M w
 have cC:∀w,Calls Tryz.prog 112 #[xI ys.length] w fun e w'=>e=.returned (.bool true)∧w=w':=fun w=>by have h:=zcn ys.length w;rwa [decide_eq_true hL]at h
 have HY:=xh (hy.alloc (.cells #[xI M,.slice a ys.length c] 45))
 have HB:Hid (Below w.heap.size w (w.alloc (.cells #[xI M,.slice a ys.length c] 45))):=xr.alloc xl _
 have k0:(w.alloc (.cells #[xI M,.slice a ys.length c] 45)).cell? (w.heap.size,0)=xJ M:=by simp
 have k1:(w.alloc (.cells #[xI M,.slice a ys.length c] 45)).cell? (w.heap.size,1)=some (.slice a ys.length c):=by simp
 clear hy
 go_enter Tryz.func102,Tryz.ntmps102
 go_wp2_with fail
 generalize w.alloc (.cells #[xI M,.slice a ys.length c] 45)=V1 at*
 have kc:∀w',Below V1.heap.size V1 w'→w'.cell? (w.heap.size,0)=xJ M∧w'.cell? (w.heap.size,1)=some (.slice a ys.length c):=fun w' h=>
  ⟨by rw[h.cell (World.block_lt_of_cell? V1 _ k0)];exact k0,by rw[h.cell (World.block_lt_of_cell? V1 _ k1)];exact k1⟩
 have cR:∀w',Below V1.heap.size V1 w'→Calls Tryz.prog 128 #[.slice a ys.length c] w' fun e w''=>e=.returned (.bool true)∧Below w'.heap.size w' w'':=fun w' hb=>by have h:=zcF (.slice a ys.length c) ys w' (HY.out.below hb) hl;rwa [decide_eq_true hR]at h
 have cZ:∀w',Below V1.heap.size V1 w'→Calls Tryz.prog 129 #[.slice a ys.length c] w' fun e w''=>e=.returned (xI (3+(osz ys:Int)))∧Below w'.heap.size w' w'':=fun w' hb=>zf6 (.slice a ys.length c) ys w' (HY.out.below hb) hl
 refine zaf (C:=fun w'=>Below V1.heap.size V1 w') (X:=fun w w'=>Below w.heap.size w w') (n:=28) (by kernel_rfl) (by kernel_rfl) rfl (fun w=>Below.refl _ w) xr.drew ?_
 refine wA 1 ?_
 refine wC 3 kc ?_
 refine wA 1 ?_
 refine wC 5 kc ?_
 refine za8 (Is _) (fun _ _ _ h _=>h) 127 (.inl rfl) (fun ρ w hC hc hfn hf=>by have e6:ρ (.tmp 6)=_:=hf 6 (by decide);exact⟨_,by (conv=>lhs;simp[execOp,resolve,invoke,go_sem,hc,hfn,e6]),za9 hC (cL w)⟩) ?_
 refine wE 4 7 hN ?_
 refine wA 8 ?_
 refine wA 1 ?_
 refine wC 10 kc ?_
 refine wA 11 ?_
 refine za8 (Is _) (fun _ _ _ h _=>h) 112 (.inr ⟨6,9,false,rfl,rfl,zaI rfl⟩) (fun ρ w hC hc hfn hf=>by have e12:ρ (.tmp 12)=_:=hf 12 (by decide);exact⟨_,by (conv=>lhs;simp[execOp,resolve,invoke,go_sem,hc,hfn,e12]),zcH hC (cC w)⟩) ?_
 refine wA 13 ?_
 refine wB 9 14 ?_
 refine wA 15 ?_
 refine wA 1 ?_
 refine wC 17 kc ?_
 refine za8 (Is _) (fun _ _ _ h _=>h) 128 (.inr ⟨13,16,false,rfl,rfl,zaI rfl⟩) (fun ρ w hC hc hfn hf=>by have e18:ρ (.tmp 18)=_:=hf 18 (by decide);exact⟨_,by (conv=>lhs;simp[execOp,resolve,invoke,go_sem,hc,hfn,e18]),za9 hC (cR w hC)⟩) ?_
 refine wA 19 ?_
 refine wB 16 20 ?_
 refine wA 21 ?_
 refine wA 1 ?_
 refine wC 23 kc ?_
 refine za8 (Is _) (fun _ _ _ h _=>h) 129 (.inr ⟨19,22,false,rfl,rfl,zaI rfl⟩) (fun ρ w hC hc hfn hf=>by have e24:ρ (.tmp 24)=_:=hf 24 (by decide);exact⟨_,by (conv=>lhs;simp[execOp,resolve,invoke,go_sem,hc,hfn,e24]),za9 hC (cZ w hC)⟩) ?_
 refine wD 25 hZ ?_
 refine wB 22 26 ?_
 intro A V5 hC hn hd hf
 have y0:=yA (hf 0)
 have y1:=yA (hf 1)
 have y2:=yA (hf 2)
 have y3:=yB (hf 3)
 have y4:=yB (hf 4)
 have y5:=yB (hf 5)
 have y6:=yB (hf 6)
 have y7:=yB (hf 7)
 have y8:=yB (hf 8)
 have y9:=yB (hf 9)
 have y10:=yB (hf 10)
 have y11:=yB (hf 11)
 have y12:=yB (hf 12)
 have y13:=yB (hf 13)
 have y14:=yB (hf 14)
 have y15:=yB (hf 15)
 have y16:=yB (hf 16)
 have y17:=yB (hf 17)
 have y18:=yB (hf 18)
 have y19:=yB (hf 19)
 have y20:=yB (hf 20)
 have y21:=yB (hf 21)
 have y22:=yB (hf 22)
 have y23:=yB (hf 23)
 have y24:=yB (hf 24)
 have y25:=yB (hf 25)
 have y26:=yB (hf 26)
 have y27:=yB (hf 27)
 clear hf
 have hA:=zaL hn
 rw[show List.range 28=[0,1,2,3,4,5,6,7,8,9,10,11,12,13,14,15,16,17,18,19,20,21,22,23,24,25,26,27]from rfl,hd]at hA
 simp only[List.map_cons,List.map_nil,y0,y1,y2,y3,y4,y5,y6,y7,y8,y9,y10,y11,y12,y13,y14,y15,y16,y17,y18,y19,y20,y21,y22,y23,y24,y25,y26,y27]at hA
 clear y0 y1 y2 y3 y4 y5 y6 y7 y8 y9 y10 y11 y12 y13 y14 y15 y16 y17 y18 y19 y20 y21 y22 y23 y24 y25 y26 y27
 clear hn hd
 subst hA
 go_wp2_with fail
 go_ret
 exact⟨rfl,HB.out.trans (hC.mono HB.out.size)⟩
theorem zk1 (M:Int)(a:Option Addr)(c:Nat)(ys:List Ob)(w:World)(hy:Os w (.slice a ys.length c) ys)(hl:ys.length≤3000)(hN:(M !=lft M)=false)(hL:1≤(ys.length:Int)∧(ys.length:Int)≤32)(hR:zc8 ys)(hZ:¬(512:Int)<3+(osz ys:Int)):
  Calls Tryz.prog 102 #[.agg #[xI M,.slice a ys.length c]] w fun e w'=>e=.returned (xI 0)∧Below w.heap.size w w':=by
 have cL:∀w,Calls Tryz.prog 127 #[xI M] w fun e w'=>e=.returned (xI (lft M))∧Below w.heap.size w w':=fun w=>zcL M w
 have cC:∀w,Calls Tryz.prog 112 #[xI ys.length] w fun e w'=>e=.returned (.bool true)∧w=w':=fun w=>by have h:=zcn ys.length w;rwa [decide_eq_true hL]at h
 have HY:=xh (hy.alloc (.cells #[xI M,.slice a ys.length c] 45))
 have HB:Hid (Below w.heap.size w (w.alloc (.cells #[xI M,.slice a ys.length c] 45))):=xr.alloc xl _
 have k0:(w.alloc (.cells #[xI M,.slice a ys.length c] 45)).cell? (w.heap.size,0)=xJ M:=by simp
 have k1:(w.alloc (.cells #[xI M,.slice a ys.length c] 45)).cell? (w.heap.size,1)=some (.slice a ys.length c):=by simp
 clear hy
 go_enter Tryz.func102,Tryz.ntmps102
 go_wp2_with fail
 generalize w.alloc (.cells #[xI M,.slice a ys.length c] 45)=V1 at*
 have kc:∀w',Below V1.heap.size V1 w'→w'.cell? (w.heap.size,0)=xJ M∧w'.cell? (w.heap.size,1)=some (.slice a ys.length c):=fun w' h=>
  ⟨by rw[h.cell (World.block_lt_of_cell? V1 _ k0)];exact k0,by rw[h.cell (World.block_lt_of_cell? V1 _ k1)];exact k1⟩
 have cR:∀w',Below V1.heap.size V1 w'→Calls Tryz.prog 128 #[.slice a ys.length c] w' fun e w''=>e=.returned (.bool true)∧Below w'.heap.size w' w'':=fun w' hb=>by have h:=zcF (.slice a ys.length c) ys w' (HY.out.below hb) hl;rwa [decide_eq_true hR]at h
 have cZ:∀w',Below V1.heap.size V1 w'→Calls Tryz.prog 129 #[.slice a ys.length c] w' fun e w''=>e=.returned (xI (3+(osz ys:Int)))∧Below w'.heap.size w' w'':=fun w' hb=>zf6 (.slice a ys.length c) ys w' (HY.out.below hb) hl
 refine zaf (C:=fun w'=>Below V1.heap.size V1 w') (X:=fun w w'=>Below w.heap.size w w') (n:=28) (by kernel_rfl) (by kernel_rfl) rfl (fun w=>Below.refl _ w) xr.drew ?_
 refine wA 1 ?_
 refine wC 3 kc ?_
 refine wA 1 ?_
 refine wC 5 kc ?_
 refine za8 (Is _) (fun _ _ _ h _=>h) 127 (.inl rfl) (fun ρ w hC hc hfn hf=>by have e6:ρ (.tmp 6)=_:=hf 6 (by decide);exact⟨_,by (conv=>lhs;simp[execOp,resolve,invoke,go_sem,hc,hfn,e6]),za9 hC (cL w)⟩) ?_
 refine wE 4 7 hN ?_
 refine wA 8 ?_
 refine wA 1 ?_
 refine wC 10 kc ?_
 refine wA 11 ?_
 refine za8 (Is _) (fun _ _ _ h _=>h) 112 (.inr ⟨6,9,false,rfl,rfl,zaI rfl⟩) (fun ρ w hC hc hfn hf=>by have e12:ρ (.tmp 12)=_:=hf 12 (by decide);exact⟨_,by (conv=>lhs;simp[execOp,resolve,invoke,go_sem,hc,hfn,e12]),zcH hC (cC w)⟩) ?_
 refine wA 13 ?_
 refine wB 9 14 ?_
 refine wA 15 ?_
 refine wA 1 ?_
 refine wC 17 kc ?_
 refine za8 (Is _) (fun _ _ _ h _=>h) 128 (.inr ⟨13,16,false,rfl,rfl,zaI rfl⟩) (fun ρ w hC hc hfn hf=>by have e18:ρ (.tmp 18)=_:=hf 18 (by decide);exact⟨_,by (conv=>lhs;simp[execOp,resolve,invoke,go_sem,hc,hfn,e18]),za9 hC (cR w hC)⟩) ?_
 refine wA 19 ?_
 refine wB 16 20 ?_
 refine wA 21 ?_
 refine wA 1 ?_
 refine wC 23 kc ?_
 refine za8 (Is _) (fun _ _ _ h _=>h) 129 (.inr ⟨19,22,false,rfl,rfl,zaI rfl⟩) (fun ρ w hC hc hfn hf=>by have e24:ρ (.tmp 24)=_:=hf 24 (by decide);exact⟨_,by (conv=>lhs;simp[execOp,resolve,invoke,go_sem,hc,hfn,e24]),za9 hC (cZ w hC)⟩) ?_
 refine wD 25 hZ ?_
 refine wB 22 26 ?_
 intro A V5 hC hn hd hf
 have y0:=yA (hf 0)
 have y1:=yA (hf 1)
 have y2:=yA (hf 2)
 have y3:=yB (hf 3)
 have y4:=yB (hf 4)
 have y5:=yB (hf 5)
 have y6:=yB (hf 6)
 have y7:=yB (hf 7)
 have y8:=yB (hf 8)
 have y9:=yB (hf 9)
 have y10:=yB (hf 10)
 have y11:=yB (hf 11)
 have y12:=yB (hf 12)
 have y13:=yB (hf 13)
 have y14:=yB (hf 14)
 have y15:=yB (hf 15)
 have y16:=yB (hf 16)
 have y17:=yB (hf 17)
 have y18:=yB (hf 18)
 have y19:=yB (hf 19)
 have y20:=yB (hf 20)
 have y21:=yB (hf 21)
 have y22:=yB (hf 22)
 have y23:=yB (hf 23)
 have y24:=yB (hf 24)
 have y25:=yB (hf 25)
 have y26:=yB (hf 26)
 have y27:=yB (hf 27)
 clear hf
 have hA:=zaL hn
 rw[show List.range 28=[0,1,2,3,4,5,6,7,8,9,10,11,12,13,14,15,16,17,18,19,20,21,22,23,24,25,26,27]from rfl,hd]at hA
 simp only[List.map_cons,List.map_nil,y0,y1,y2,y3,y4,y5,y6,y7,y8,y9,y10,y11,y12,y13,y14,y15,y16,y17,y18,y19,y20,y21,y22,y23,y24,y25,y26,y27]at hA
 clear y0 y1 y2 y3 y4 y5 y6 y7 y8 y9 y10 y11 y12 y13 y14 y15 y16 y17 y18 y19 y20 y21 y22 y23 y24 y25 y26 y27
 clear hn hd
 subst hA
 go_wp2_with fail
 go_ret
 exact⟨rfl,HB.out.trans (hC.mono HB.out.size)⟩
theorem zcP (M:Int)(v:Value)(ys:List Ob)(w:World)(hy:Os w v ys)(hl:ys.length≤3000):
  Calls Tryz.prog 102 #[.agg #[xI M,v]] w fun e w'=>e=.returned (xI (btc M ys))∧Below w.heap.size w w':=by
 obtain⟨a,c,rfl⟩:=hy.form
 unfold btc
 by_cases hN:M=lft M
 ·have hN':(M !=lft M)=false:=by simpa using hN
  have hr:=zmL M
  by_cases hL:1≤(ys.length:Int)∧(ys.length:Int)≤32
  ·by_cases hR:zc8 ys
   ·by_cases hZ:(512:Int)<3+(osz ys:Int)
    ·rw[if_neg (fun h=>by have:=h.2.2.2;omega)]
     exact zlr M a c ys w hy hl hN' hL hR hZ
    ·rw[if_pos ⟨by omega,by omega,hR,by omega⟩]
     exact zk1 M a c ys w hy hl hN' hL hR hZ
   ·rw[if_neg (fun h=>hR h.2.2.1)]
    exact zme M a c ys w hy hl hN' hL hR
  ·rw[if_neg (fun h=>by have:=h.2.1;omega)]
   exact zk8 M a c ys w hy hl hN' hL
 ·have hN':(M !=lft M)=true:=by simpa using hN
  rw[if_neg (fun h=>hN (by have:=h.1;unfold lft;omega))]
  exact zmk M a c ys w hy hl hN'
end
end Go.Proofs.YtjghebcnmoojmaaGreat
