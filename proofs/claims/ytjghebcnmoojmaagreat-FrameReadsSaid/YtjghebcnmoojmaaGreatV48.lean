/- A batch as bytes: -/
import Derived.Test.YtjghebcnmoojmaaGreatV26
import Derived.Test.YtjghebcnmoojmaaGreatV28
set_option maxRecDepth 100000
set_option maxHeartbeats 32000000
namespace Go.Proofs.YtjghebcnmoojmaaGreat
open Go.RowKit MX
section
open Go.Sort
theorem zic (M:Int)(v:Value)(ys:List Ob)(w:World)(hy:Os w v ys)(h:BtOk M ys):Calls Tryz.prog 78 #[.agg #[xI M,v]] w fun e w'=>∃r,e=.returned (.tuple #[r,xI 0])∧(w'.ownsRow w.heap.size 5 1 r (btB M ys).length ((btB M ys).map (Value.int .u8))∧Bs w' r (btB M ys))∧Below w.heap.size w w':=by
 obtain⟨a,c,rfl⟩:=hy.form
 have hl:ys.length≤32:=h.2.1.2
 have cR:=zcP M _ ys (w.alloc (.cells #[xI M,.slice a ys.length c] 45)) (hy.alloc _) (by omega)
 rw[btc,if_pos h]at cR
 obtain⟨hN,hlen,hok,htot⟩:=h
 have HOK:=xh hok
 have HY:=xh (hy.alloc (.cells #[xI M,.slice a ys.length c] 45))
 have hwl:IntKind.u8.wrap (ys.length:Int)=(ys.length:Int):=by rw[IntKind.wrap_u8];omega
 have cP:∀w,Calls Tryz.prog 42 #[xI M,xI 2] w fun e w'=>∃r,e=.returned (.tuple #[r,xI 0])∧w'.ownsRow w.heap.size 5 1 r 2 ([M/256,M%256].map (Value.int .u8))∧Below w.heap.size w w':=fun w=>by
  have h:=zdP M 2 w ⟨hN.1,by rw[show zao 2=65536 by decide];omega⟩ (by decide) (by decide)
  rw[zf5 hN]at h
  exact h
 clear hok hy
 go_enter Tryz.func78,Tryz.ntmps78
 go_wp2_with (go_at_call 102;refine cR.mono ?_;rintro e V ⟨rfl,hb⟩;have k0:V.cell? (w.heap.size,0)=xJ M:=(by rw[hb.cell (p:=xQ w.heap.size 0) (by simp)];simp);have k1:V.cell? (w.heap.size,1)=some (.slice a ys.length c):=(by rw[hb.cell (p:=xQ w.heap.size 1) (by simp)];simp);replace HY:=xh (HY.out.below hb);have HB:Hid (Below w.heap.size w V):=(xr.alloc xl _).trans (hb.mono (by simp));have HL:Hid (w.heap.size<V.heap.size):=Nat.lt_of_lt_of_le (by simp) hb.size;clear hb)
 refine(cP _).mono ?_
 rintro e V1 ⟨r1,rfl,ho1,hb1⟩
 obtain⟨a1,c1,rfl⟩:=zd9 ho1
 have O1:Hid ((V1.alloc (.cells #[.int .u8 ys.length] 5)).ownsRow V.heap.size 5 1 (.slice a1 2 c1) [M/256,M%256].length ([M/256,M%256].map (Value.int .u8))):=ho1.alloc _
 have L1:Hid (Bs (V1.alloc (.cells #[.int .u8 ys.length] 5)) (.slice (some (V1.heap.size,0)) 1 1) [(ys.length:Int)]):=zcZ [(ys.length:Int)] 5 (fun z hz=>by simp at hz;omega) (by simp) _ rfl _ rfl 1 rfl
 have B1:Hid (Below V.heap.size V (V1.alloc (.cells #[.int .u8 ys.length] 5))):=hb1.alloc hb1.size _
 have c0:V1.cell? (w.heap.size,0)=xJ M:=by rw[hb1.cell (p:=xQ w.heap.size 0) HL.out];exact k0
 have c1':V1.cell? (w.heap.size,1)=some (.slice a ys.length c):=by rw[hb1.cell (p:=xQ w.heap.size 1) HL.out];exact k1
 clear ho1 hb1
 go_wp2_with (at_builtin;refine za7 rfl (.tmp 22) (.tmp 27) rfl V.heap.size [M/256,M%256] [(ys.length:Int)] O1.out L1.out (by simp) B1.out.size ?_;intro v2 w2 hown2 hb2 hs2;have O2:=xh hown2;have B2:=xh (B1.out.trans hb2);have d1:w2.cell? (w.heap.size,1)=some (.slice a ys.length c):=(by rw[B2.out.cell (p:=xQ w.heap.size 1) HL.out];exact k1);clear hown2 hb2 hs2)
 go_loopw [5,8,9,10,32] (fun out _ _ _ i wr=>∃k:Nat,k≤ys.length∧i=xI k∧wr.ownsRow V.heap.size 5 1 out ([M/256,M%256,(ys.length:Int)]++((ys.take k).map Ob.bs).flatten).length (([M/256,M%256,(ys.length:Int)]++((ys.take k).map Ob.bs).flatten).map (Value.int .u8))∧Below V.heap.size V wr) (fun _ _ _ _ i _=>ys.length-(intOf i).toNat)
 case atStart=>exact⟨0,Nat.zero_le _,rfl,O2.out,B2.out⟩
 case round=>
  obtain⟨k,hk,rfl,hown,hbel⟩:=hrel
  have O3:=xh hown
  have B3:=xh hbel
  clear hown hbel
  have hzl:=zeo ys k
  have hzz:=zbT (ys.take k)
  by_cases hlt:k<ys.length
  ·obtain⟨b,off,rfl,hB,hc⟩:=(HY.out.below B3.out).at hlt
   have HF:=xh (zg2 ys k hlt)
   have HK1:=xh (HOK.out k hlt)
   obtain⟨y,hyk⟩:∃y,ys.getD k z12=y:=⟨_,rfl⟩
   rw[hyk]at hc HF HK1
   obtain⟨p0,p1,p2,p3,p4,p5,p6,p7,p8,p9,p10,p11⟩:=hc.all
   have H2:=xh ((Below.refl _ wr).alloc xl (.cells (xO y.k y.x y.n y.t y.o y.r y.d y.i y.p y.q y.s y.m) 63))
   have hyl:=zjK y
   clear hc hyk
   have cB:∀w,Calls Tryz.prog 103 #[.agg (xO y.k y.x y.n y.t y.o y.r y.d y.i y.p y.q y.s y.m)] w (RetB y.bs 0 w):=fun w=>by
    have h:=ze3 y.k y.x y.n y.t y.o y.r y.d y.i y.p y.q y.s y.m w
    rwa [show obc y.k y.x y.n y.t y.o y.r y.d y.i y.p y.q y.s y.m=0 from zb1 HK1.out]at h
   go_wp2_with fail
   refine(cB _).mono ?_
   rintro e w1 ⟨r3,rfl,hr3,hb⟩
   obtain⟨a3,c3,rfl⟩:=zhF hr3
   have hb':=H2.out.trans (hb.mono H2.out.size)
   have O4:=xh (zaM O3.out hb')
   have R4:=xh hr3
   have B4:=xh (B3.out.trans (hb'.mono B3.out.size))
   clear hb hb' hr3
   go_wp2_with (at_builtin;refine za7 rfl (.tmp 41) (.tmp 42) rfl V.heap.size ([M/256,M%256,(ys.length:Int)]++((ys.take k).map Ob.bs).flatten) y.bs O4.out R4.out (by simp only[List.length_append,List.length_cons,List.length_nil];omega) B4.out.size ?_;intro v5 w5 hown5 hb5 hs5;have O5:=xh hown5;have B5:=xh (B4.out.trans hb5);clear hown5 hb5 hs5)
   go_roundw
   case rel=>exact⟨k+1,by omega,by go_num,by rw[HF.out,←List.append_assoc];exact O5.out,B5.out⟩
   case measure=>simp[intOf];omega
  ·obtain rfl:k=ys.length:=by omega
   go_wp2_with fail
   go_ret2
   have hO:=O3.out
   rw[List.take_length]at hO hzz
   refine⟨_,rfl,⟨zbs hO HB.out.size,?_⟩,HB.out.trans (B3.out.mono HB.out.size)⟩
   refine zaq hO (zaS (fun z hz=>by simp at hz;rcases hz with rfl|rfl|rfl<;>omega) (fun z hz=>?_)) (show(btB M ys).length≤_ by unfold btB;simp only[List.length_append,List.length_cons,List.length_nil];omega)
   obtain⟨l,hl1,hl2⟩:=List.mem_flatten.1 hz
   obtain⟨y,hy1,rfl⟩:=List.mem_map.1 hl1
   obtain⟨i,hi,hy2⟩:=List.mem_iff_getElem.1 hy1
   refine zmt ?_ z hl2
   have:=HOK.out i hi
   rw[show ys.getD i z12=y by simp[List.getD,hi,hy2]]at this
   exact this
end
end Go.Proofs.YtjghebcnmoojmaaGreat
