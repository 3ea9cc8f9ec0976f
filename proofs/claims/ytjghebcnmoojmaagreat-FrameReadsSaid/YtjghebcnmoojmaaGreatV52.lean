/- Parts as bytes: A frame's bytes: For whom a frame is: -/
import Derived.Test.YtjghebcnmoojmaaGreatV49
import Derived.Test.YtjghebcnmoojmaaGreatV51
set_option maxRecDepth 100000
set_option maxHeartbeats 32000000
namespace Go.Proofs.YtjghebcnmoojmaaGreat
open Go.RowKit MX MR
section
section
variable (R:RowT)
theorem zir (w:World)(ty:TypeId)(S:Nat)(v:Value)(xs:List R.α)(hown:w.ownsRow S R.T R.K v xs.length (zaA R xs))(S':Nat)(u:Value)(ys:List R.α)(hu:w.ownsRow S' R.T R.K u ys.length (zaA R ys))(hl:xs.length+ys.length≤30000)(hS:S≤w.heap.size):
  ∃r w',(Builtin.append_ #[R.SL,R.SL] ty #[v,u]).run Tryz.prog w=.ok r w'∧w'.ownsRow S R.T R.K r (xs++ys).length (zaA R (xs++ys))∧w.grownBy w' v.ownBlock∧∀g,r.ownBlock=some g→v.ownBlock=some g∨w.heap.size≤g:=by
 obtain⟨i0,hi,hz0,hz1,hz2⟩:=info_parts R.hinfo
 have hzs:=R.hz
 have hbb:=R.hb
 have hpos:=R.hK
 have e:zaA R (xs++ys)=zaA R xs++zaA R ys:=zdi R xs ys
 have e2:(xs++ys).length=xs.length+ys.length:=by simp
 have hfl:=zbS R xs
 have hfy:=zbS R ys
 have hby:(xs.length+ys.length)*R.bytes≤140737488355328:=Nat.le_trans (Nat.mul_le_mul hl hbb) (by decide)
 have same:∀row,w.grownBy w row:=fun _=>⟨rfl,rfl,rfl,Nat.le_refl _,fun _ _ _=>rfl⟩
 rcases hu.2 with ⟨rfl,h0⟩|⟨b,c,cur2,rfl,_,_,hyc,_⟩
 ·have hy:ys=[]:=List.length_eq_zero_iff.1 h0
  subst hy
  refine⟨v,w,run_append_owned_none (P:=Tryz.prog) (w:=w) S R.SL ty R.T i0 R.K R.hSL hi v xs.length (zaA R xs) hown,?_,same _,fun _ h=>.inl h⟩
  rw[List.append_nil];exact hown
 ·have hnews:∀j q,(zaA R ys)[j]? =some q→w.cell? (((xQ b 0):Addr).add j)=some q:=fun j q hj=>by
   have h1:=(List.getElem?_eq_some_iff.1 hj).1
   rw[hfy]at h1
   rw[zdk,Nat.zero_add,zbf hu j h1];exact hj
  have hone:=ze1 R ys
  rw[e,e2]
  rcases hown.2 with ⟨rfl,h0⟩|⟨g,cap,cur,rfl,hg1,hg2,_⟩
  ·obtain⟨v',w',hr,h2,h3,_,_⟩:=run_append_own_at (P:=Tryz.prog) w w.heap.size R.SL ty R.T i0 R.zero R.K R.bytes R.hSL hi hz0 hz1 hz2 hzs hpos xS xs.length (zaA R xs) ⟨hown.1,.inl ⟨rfl,h0⟩⟩ (xQ b 0) ys.length c (zaA R ys) hfy hnews hone (by unfold maxLen;omega) hby xl
   exact⟨v',w',hr,zas h2 hS,h3,fun g hg=>.inr (World.ownsRow.lt h2 g hg).1⟩
  ·by_cases hroom:xs.length+ys.length≤cap
   ·obtain⟨w',hr,h2,h3⟩:=run_append_fits (P:=Tryz.prog) w S R.SL ty R.T i0 R.K R.hSL hi hz1 g xs.length cap (zaA R xs) hown (xQ b 0) ys.length c (zaA R ys) hfy hnews hone hroom
    exact⟨_,w',hr,h2,h3,fun g' h=>.inl h⟩
   ·obtain⟨v',w',hr,h2,h3⟩:=run_append_arg_grows (P:=Tryz.prog) w R.SL ty R.T i0 R.zero R.K R.bytes R.hSL hi hz0 hz1 hz2 hzs hpos (xQ g 0) xs.length cap (zaA R xs) hfl (hown.cells rfl) (xQ b 0) ys.length c (zaA R ys) hfy hnews (by omega) (by unfold maxLen;omega) hby
    exact⟨v',w',hr,zas h2 hS,⟨h3.os,h3.tape,h3.output,h3.size,fun k hk _=>h3.block k hk (by simp)⟩,fun g' hg=>.inr (World.ownsRow.lt h2 g' hg).1⟩
end
theorem zp5 (w:World)(ty:TypeId)(S:Nat)(v:Value)(xs:List Int)(hown:OwB w S v xs)(S':Nat)(u:Value)(ys:List Int)(hu:OwB w S' u ys)(hl:xs.length+ys.length≤30000)(hS:S≤w.heap.size):
  ∃r w',(Builtin.append_ #[26,26] ty #[v,u]).run Tryz.prog w=.ok r w'∧OwB w' S r (xs++ys)∧w.grownBy w' v.ownBlock∧∀g,r.ownBlock=some g→v.ownBlock=some g∨w.heap.size≤g:=by
 obtain⟨r,w',hr,h1,h2,h3⟩:=zir RB w ty S v xs hown.to S' u ys hu.to hl hS
 exact⟨r,w',hr,OwB.of h1,h2,h3⟩
theorem zbQ {ops:Array Oper}{rest:List Oper}{o:Oper}{a:Act}{Q:Exit→Act→World→Prop}{w:World}(hgd:o.guard=none)(s x:Operand)
  (ho:o.op=.call {callee:=.builtin .append,args:=#[s,x],argTypes:=#[26,26]}) (S:Nat) (xs:List Int) (hown:OwB w S (a.eval s) xs) (S':Nat) (ys:List Int) (hu:OwB w S' (a.eval x) ys) (hl:xs.length+ys.length≤30000) (hS:S≤w.heap.size)
  (h:∀v' w',OwB w' S v' (xs++ys)→w.grownBy w' (a.eval s).ownBlock→(∀g,v'.ownBlock=some g→(a.eval s).ownBlock=some g∨w.heap.size≤g)→wpList Tryz.prog ops Q rest (a.put o.dst v') w'):wpList Tryz.prog ops Q (o::rest) a w:=by
 obtain⟨v',w',hr,h2,h3,h4⟩:=zp5 w o.type S _ xs hown S' _ ys hu hl hS
 refine wpList_plain hgd fun _ hK=>?_
 unfold Oper.wp execOp
 simp only[ho,resolve,invoke,builtin,Sem.run_bind,Sem.run_pure,Result.andThen_ok,List.map_toArray,List.map_cons,List.map_nil,hr]
 exact hK _ _ (h v' w' h2 h3 h4)
def psL (ps:List Pt):List Int:=if AllP ps then psB ps else[]
def psK (ps:List Pt):Int:=if AllP ps then 0 else 1
theorem zkR {w w':World}{ps:List Pt}(h:¬AllP ps)(hb:Below w.heap.size w w'):RetS w (psL ps) (psK ps) (.returned (.tuple #[xS,xI 1])) w':=by
 unfold psL psK
 rw[if_neg h,if_neg h]
 exact zdO ⟨rfl,hb⟩
theorem zlX {w w':World}{ps:List Pt}{v:Value}(h:AllP ps)(ho:OwB w' w.heap.size v (psB ps))(hb:Below w.heap.size w w'):RetS w (psL ps) (psK ps) (.returned (.tuple #[v,xI 0])) w':=by
 unfold psL psK
 rw[if_pos h,if_pos h]
 exact⟨⟨_,rfl,ho⟩,hb⟩
theorem lo2 {L:Nat}(h:L≤65535):lo (L:Int) 2=[(L:Int)/256,(L:Int)%256]:=by
 simp[lo,List.range_succ]
 omega
theorem znS (v:Int)(w:World)(h:0≤v∧v≤65535):Calls Tryz.prog 23 #[xI v,xI 2] w fun e w'=>∃r,e=.returned r∧OwB w' w.heap.size r (lo v 2)∧Below w.heap.size w w':=by
 refine(zha v 2 w ⟨h.1,by have:=h.2;show v<256*(256*1);omega⟩ (by decide) (by decide)).mono fun e w' ⟨r,h1,h2,h3⟩=>⟨r,h1,?_,h3⟩
 unfold OwB
 rw[zan]
 exact h2
theorem zoN (v:Int)(w:World)(h:EpOk v):Calls Tryz.prog 23 #[xI v,xI 4] w fun e w'=>∃r,e=.returned r∧OwB w' w.heap.size r (lo v 4)∧Below w.heap.size w w':=by
 refine(zha v 4 w ⟨h.1,by have:=h.2;show v<256*(256*(256*(256*1)));omega⟩ (by decide) (by decide)).mono fun e w' ⟨r,h1,h2,h3⟩=>⟨r,h1,?_,h3⟩
 unfold OwB
 rw[zan]
 exact h2
theorem zfI (a:Option Addr)(c:Nat)(ps:List Pt)(w:World)(h:Ps w (.slice a ps.length c) ps)(hf:∀i,i<ps.length→zaR (ps.getD i zPt))(hl:ps.length≤8):
  Calls Tryz.prog 22 #[.slice a ps.length c] w (RetS w (psL ps) (psK ps)):=by
 have HX:=xh h
 have HI:=xh hf
 have HP8:Hid (ps.length≤8):=hl
 clear h hf hl
 go_enter Tryz.func22,Tryz.ntmps22
 go_wp2_with fail
 go_loopw [4,11] (fun v i wr=>∃(k:Nat) (u:Value),k≤ps.length∧i=xI k∧u=v∧OwB wr w.heap.size u (psB (ps.take k))∧(∀j,j<k→(ps.getD j zPt).Ok)∧Below w.heap.size w wr) (fun _ i _=>ps.length-(intOf i).toNat)
 case atStart=>exact⟨0,_,Nat.zero_le _,rfl,rfl,World.ownsRow_nil _ _ _ _,fun j h=>absurd h (Nat.not_lt_zero _),Below.refl _ _⟩
 case round=>
  obtain⟨k,u,hk,rfl,rfl,hrow,hall,hbel⟩:=hrel
  have HR:=xh hrow
  have HA:=xh hall
  have HBV:=xh hbel
  have HSV:Hid (w.heap.size≤wr.heap.size):=hbel.size
  have HU:Hid (∀g,u.ownBlock=some g→g<wr.heap.size):=fun g hg=>(OwB.lt hrow g hg).2
  have hX:=HX.out.below hbel
  have hlen:(psB (ps.take k)).length≤4824:=by
   have h1:=zft (ps:=ps.take k) (fun i hi=>by
    have hi':i<k:=by rw[List.length_take]at hi;omega
    have h2:=hall i hi'
    have e:(ps.take k).getD i zPt=ps.getD i zPt:=by simp[List.getD,hi']
    rw[e];exact h2)
   have h2:(ps.take k).length≤8:=by rw[List.length_take];have:=HP8.out;omega
   omega
  have HLEN:=xh hlen
  clear hrow hall hbel hlen
  by_cases hlt:k<ps.length
  ·obtain⟨b,off,r,rfl,hb1,x,hr⟩:=hX.at hlt
   have HF:=xh (HI.out k hlt)
   have hst:=zfq ps k hlt
   obtain⟨p1,hp1⟩:∃p,ps.getD k zPt=p:=⟨_,rfl⟩
   rw[hp1]at hr HF hst
   have HK1:=xh hp1
   have HST:=xh hst
   have HKR:Hid (r.k=p1.k):=hr.k
   have hk9:(ps.length:Int)≤8:=by have:=HP8.out;omega
   have hk0:(0:Int)≤(k:Int):=by omega
   have hk1:(k:Int)<(ps.length:Int):=by omega
   have hkn:((k:Int)).toNat=k:=Int.toNat_natCast k
   have hal:=(Below.refl wr.heap.size wr).alloc xl (.cells (xR r) 50)
   have OT:=xh (zac wr r 50 wr.heap.size rfl)
   have HRP:=xh (hr.below hal)
   replace HR:=xh (HR.out.below hal)
   replace HBV:=xh (HBV.out.trans (hal.mono HSV.out))
   have HSV0:Hid (w.heap.size≤(wr.alloc (.cells (xR r) 50)).heap.size):=Nat.le_trans HSV.out hal.size
   have hU0:∀g,u.ownBlock=some g→g<(wr.alloc (.cells (xR r) 50)).heap.size:=fun g hg=>Nat.lt_of_lt_of_le (HU.out g hg) hal.size
   have HU0:=xh hU0
   clear hp1 hst hal hr hU0
   obtain⟨x0,x1,x2,x3,x4,x5,x6,x7,x8,x9,x10⟩:=x
   go_wp2_with fail
   clear x0 x1 x2 x3 x4 x5 x6 x7 x8 x9 x10
   have cS:=xh (zik r p1 _ HRP.out HF.out)
   obtain⟨V0,hV0⟩:∃V0,wr.alloc (.cells (xR r) 50)=V0:=⟨_,rfl⟩
   rw[hV0]at cS HR HBV OT HSV0 HU0 HRP ⊢
   clear hV0
   refine cS.out.mono ?_
   rintro e V1 ⟨⟨v9,rfl,hB9⟩,hb⟩
   replace HR:=xh (HR.out.below hb)
   replace HBV:=xh (HBV.out.trans (hb.mono HSV0.out))
   replace OT:=xh (OT.out.below hb)
   have HSV1:Hid (w.heap.size≤V1.heap.size):=Nat.le_trans HSV0.out hb.size
   clear hb
   obtain⟨a9,c9,rfl⟩:=zap hB9
   by_cases hok:p1.Ok
   ·rw[show spK p1=0 from if_pos hok]
    rw[show spL p1=p1.bs from if_pos hok]at hB9 ⊢
    have hbl:=Pt.bs_len hok
    have hkb:0≤p1.k∧p1.k<256:=Pt.row_byt hok _ (by simp[Pt.row])
    obtain⟨P,hP⟩:∃P,psB (ps.take k)=P:=⟨_,rfl⟩
    obtain⟨L,hL⟩:∃L,p1.bs.length=L:=⟨_,rfl⟩
    have hlo:=lo2 (L:=L) (by omega)
    have hrow:p1.row=[p1.k]++(lo (L:Int) 2++p1.bs):=by rw[hlo,←hL];rfl
    rw[hP]at HR HLEN
    rw[hP,hrow]at HST
    have T1:Hid (Btw V1 V0.heap.size V1.heap.size (.slice a9 p1.bs.length c9) p1.bs):=⟨hB9,fun g hg=>(OwB.lt hB9 g hg).2⟩
    rw[hL]at hbl T1
    rw[hL]
    have HBL:=xh hbl
    have HPK:=xh hok
    have HKB:=xh hkb
    have HLL:Hid (p1.bs.length=L):=hL
    have SP1:Hid (Sep V0.heap.size V1.heap.size u):=fun g hg=>.inl (HU0.out g hg)
    have t1:IntKind.u8.wrap r.k=p1.k:=by rw[HKR.out,IntKind.wrap_u8];omega
    clear hok hB9 hbl hkb hP hL hrow hlo
    obtain⟨⟨u0,u1,u2,u3,u4,u5,u6,u7,u8,u9,u10⟩,-⟩:=OT.out
    go_wp2_with (at_builtin;(skip;refine zbQ rfl (.tmp 23) (.tmp 27) rfl w.heap.size P (HR.out.below ((Below.refl _ V1).alloc xl _)) V1.heap.size [p1.k] (zck V1 V1.heap.size p1.k xl V1.heap.size rfl) (by have:=HLEN.out;simp;omega) (by have:=HSV1.out;simp;omega) ?_;intro v2 w2 ho9 hg9 hs9;(have hbz:Below V1.heap.size V1 (V1.alloc (.cells #[.int .u8 p1.k] 5)):=(Below.refl _ V1).alloc xl _);(have SP2:=xh (SP1.out.next hbz.size hs9));(have HB2:Hid (Below w.heap.size w w2):=(HBV.out.trans (hbz.mono HSV1.out)).grown hg9 (Nat.le_trans HSV1.out hbz.size) (fun k hk=>(HR.out.lt k hk).1));(have T2:=xh ((T1.out.below hbz).grown SP1.out hg9));(have HR2:=xh ho9);(have HS2:Hid (V1.heap.size≤w2.heap.size):=Nat.le_trans hbz.size hg9.size);clear ho9 hg9 hs9 hbz))
    clear u0 u1 u2 u3 u4 u5 u6 u7 u8 u9 u10
    refine(znS (L:Int) _ (by have:=HBL.out;omega)).mono ?_
    rintro e V3 ⟨r3,rfl,ho3,hb⟩
    have T3:=xh (T2.out.below hb)
    have HR3:=xh (HR2.out.below hb)
    have HB3:Hid (Below w.heap.size w V3):=HB2.out.trans (hb.mono HB2.out.size)
    have HS3:Hid (V1.heap.size≤V3.heap.size):=Nat.le_trans HS2.out hb.size
    have HR9:=xh ho3
    clear hb ho3
    go_wp2_with (first
     | (at_builtin;(skip;refine zbQ rfl (.tmp 29) (.tmp 32) rfl w.heap.size (P++[p1.k]) HR3.out w2.heap.size (lo (L:Int) 2) HR9.out (by have:=HLEN.out;simp[zan];omega) HB3.out.size ?_;intro v4 w4 ho9 hg9 hs9;(have SP4:=xh (SP2.out.next HS3.out hs9));(have HB4:Hid (Below w.heap.size w w4):=HB3.out.grown hg9 HB3.out.size (fun k hk=>(HR3.out.lt k hk).1));(have T4:=xh (T3.out.grown SP2.out hg9));(have HR4:=xh ho9);clear ho9 hg9 hs9))
     | (at_builtin;(skip;refine zbQ rfl (.tmp 34) (.tmp 35) rfl w.heap.size (P++[p1.k]++lo (L:Int) 2) HR4.out V0.heap.size p1.bs T4.out.1 (by have:=HLEN.out;have:=HBL.out;have:=HLL.out;simp[zan];omega) HB4.out.size ?_;intro v5 w5 ho9 hg9 hs9;(have HB5:Hid (Below w.heap.size w w5):=HB4.out.grown hg9 HB4.out.size (fun k hk=>(HR4.out.lt k hk).1));(have HR5:=xh ho9);clear ho9 hg9 hs9)))
    go_roundw
    case rel=>
     refine⟨k+1,_,by omega,by go_num,rfl,by rw[HST.out];simpa using HR5.out,fun j hj=>?_,HB5.out⟩
     by_cases h:j<k
     ·exact HA.out j h
     ·obtain rfl:j=k:=by omega
      rw[HK1.out];exact HPK.out
    case measure=>simp[intOf];omega
   ·rw[show spK p1=1 from if_neg hok]
    have HNO:Hid (¬p1.Ok):=hok
    clear hok
    go_wp2_with fail
    go_ret2
    refine zkR (fun h=>HNO.out ?_) HBV.out
    rw[←HK1.out];exact h k hlt
  ·obtain rfl:k=ps.length:=by omega
   have HALL:Hid (AllP ps):=HA.out
   rw[List.take_length]at HR
   go_wp2_with fail
   go_ret2
   exact zlX HALL.out HR.out HBV.out
end
theorem zl3 (w:World)(base:Nat)(x y z u:Int)(hb:base≤w.heap.size)(g:Nat)(hg:g=w.heap.size):OwB (w.alloc (.cells #[.int .u8 x,.int .u8 y,.int .u8 z,.int .u8 u] 5)) base (.slice (some (xQ g 0)) 4 4) [x,y,z,u]:=by
 subst hg
 exact World.ownsRow_lit w #[.int .u8 x,.int .u8 y,.int .u8 z,.int .u8 u] 4 hb (by unfold maxLen;omega) rfl
theorem lo2i {v:Int}(h:0≤v∧v≤65535):lo v 2=[v/256,v%256]:=by
 simp[lo,List.range_succ]
 omega
theorem zjX (fr ep to pe:Int)(ps:List Pt)(M Z:Int)(P:List Int)(hP:psB ps=P)(hM:17+(P.length:Int)=M)(hM1:M≤1400)(hZ:sumN (frB0 fr ep to pe ps)=Z):
  [84,1,fr,to]++lo ep 4++lo pe 4++lo M 2++[(ps.length:Int)]++P=frB0 fr ep to pe ps∧frB0 fr ep to pe ps++lo Z 2=frB fr ep to pe ps:=by
 have hz:=zdM (frB0 fr ep to pe ps)
 rw[hZ]at hz
 rw[lo2i (v:=M) (by omega),lo2i hz]
 unfold frB
 rw[hZ]
 refine⟨?_,rfl⟩
 unfold frB0 zbB
 rw[hP,hM]
 simp
theorem zeZ (fr ep to pe:Int)(a:Option Addr)(c:Nat)(ps:List Pt)(w:World)(h:Ps w (.slice a ps.length c) ps)(hf:∀i,i<ps.length→zaR (ps.getD i zPt)):Calls Tryz.prog 10 #[.agg (xA fr ep to pe (.slice a ps.length c))] w (RetF w fr ep to pe ps):=by
 have OF:=xh (zav w fr ep to pe (.slice a ps.length c) 24 w.heap.size rfl)
 have HB:Hid (Below w.heap.size w (w.alloc (.cells (xA fr ep to pe (.slice a ps.length c)) 24))):=xr.alloc xl _
 have HX:=xh (h.below HB.out)
 have HI:=xh hf
 clear h hf
 obtain⟨V0,hV0⟩:∃V0,w.alloc (.cells (xA fr ep to pe (.slice a ps.length c)) 24)=V0:=⟨_,rfl⟩
 rw[hV0]at OF HB HX
 have HV0:=xh hV0
 clear hV0
 go_enter Tryz.func10,Tryz.ntmps10
 go_upto_region 1 with (fail)
 rw[HV0.out]
 clear HV0
 obtain⟨⟨u0,u1,u2,u3,u4⟩,-⟩:=OF.out
 by_cases hn:FrHd fr ep to pe ps.length
 rotate_left
 ·have cH:=zf9 fr ep to pe a ps.length c false ⟨fun h=>(by cases h),fun h=>absurd h hn⟩ V0
  have HN:=xh hn
  clear hn
  go_wp2_with fail
  refine cH.mono ?_
  rintro e V1 ⟨rfl,hb⟩
  have HB1:=xh (HB.out.trans (hb.mono HB.out.size))
  clear hb u0 u1 u2 u3 u4
  go_wp2_with fail
  go_ret2
  exact zbc (fun h=>HN.out h.1) HB1.out
 have cH:=zf9 fr ep to pe a ps.length c true ⟨fun _=>hn,fun _=>rfl⟩ V0
 have HN:=xh hn
 clear hn
 go_wp2_with fail
 refine cH.mono ?_
 rintro e V1 ⟨rfl,hb⟩
 replace HB:=xh (HB.out.trans (hb.mono HB.out.size))
 replace OF:=xh (OF.out.below hb)
 replace HX:=xh (HX.out.below hb)
 clear hb u0 u1 u2 u3 u4
 obtain⟨⟨u0,u1,u2,u3,u4⟩,-⟩:=OF.out
 go_wp2_with fail
 refine(zfI a c ps V1 HX.out HI.out HN.out.2.2.2.2.2).mono ?_
 rintro e V2 ⟨⟨v9,rfl,hB9⟩,hb⟩
 have HS12:Hid (V1.heap.size≤V2.heap.size):=hb.size
 replace HB:=xh (HB.out.trans (hb.mono HB.out.size))
 replace OF:=xh (OF.out.below hb)
 clear hb u0 u1 u2 u3 u4 HX
 obtain⟨⟨u0,u1,u2,u3,u4⟩,-⟩:=OF.out
 obtain⟨a9,c9,rfl⟩:=zap hB9
 by_cases hall:AllP ps
 rotate_left
 ·rw[show psK ps=1 from if_neg hall,show psL ps=[]from if_neg hall]
  have HNA:=xh hall
  clear hall hB9
  go_wp2_with fail
  go_ret2
  exact zbc (fun h=>HNA.out h.2.1) HB.out
 rw[show psK ps=0 from if_pos hall]
 rw[show psL ps=psB ps from if_pos hall]at hB9 ⊢
 have hlen:=zft hall
 have HALL:=xh hall
 obtain⟨P,hP⟩:∃P,psB ps=P:=⟨_,rfl⟩
 have h8:=HN.out.2.2.2.2.2
 rw[hP]at hB9 hlen ⊢
 obtain⟨M,hM⟩:∃M:Int,17+(P.length:Int)=M:=⟨_,rfl⟩
 have hw1:IntKind.i64.wrap (17+(P.length:Int))=M:=by rw[hM,IntKind.wrap_i64];omega
 have HP:=xh hP
 have HM:=xh hM
 have HLN:Hid (P.length≤4824):=by show _≤_;omega
 have HP8:Hid (ps.length≤8):=h8
 clear hP hM hall hlen h8
 by_cases hbig:M>1400
 ·have hbd:decide (M>1400)=true:=decide_eq_true hbig
  have HBG:Hid (M>1400):=hbig
  clear hbig hB9
  go_wp2_with fail
  go_ret2
  refine zbc (fun h=>?_) HB.out
  have h9:=h.2.2
  rw[HP.out]at h9
  have:=HM.out
  have:=HBG.out
  omega
 have hbd:decide (M>1400)=false:=decide_eq_false hbig
 have HM1:Hid (0≤M∧M≤1400):=by have:=HM.out;exact⟨by omega,by omega⟩
 have HOK:Hid (FrOk fr ep to pe ps):=⟨HN.out,HALL.out,by rw[HP.out];have:=HM.out;omega⟩
 clear hbig
 have T0:Hid (Btw V2 V1.heap.size V2.heap.size (.slice a9 P.length c9) P):=⟨hB9,fun g hg=>(OwB.lt hB9 g hg).2⟩
 clear hB9
 have hfr:=HN.out.lo
 have k1:IntKind.u8.wrap fr=fr:=by have:=hfr.1;rw[IntKind.wrap_u8];omega
 have k2:IntKind.u8.wrap to=to:=by have:=hfr.2.1;rw[IntKind.wrap_u8];omega
 have k3:IntKind.u8.wrap (ps.length:Int)=(ps.length:Int):=by have:=hfr.2.2;rw[IntKind.wrap_u8];omega
 clear hfr
 have hal:=(Below.refl V2.heap.size V2).alloc xl (.cells #[.int .u8 84,.int .u8 1,.int .u8 fr,.int .u8 to] 5)
 have R0:=xh (zl3 V2 V2.heap.size 84 1 fr to xl V2.heap.size rfl)
 replace T0:=xh (T0.out.below hal)
 have SP0:Hid (Sep V1.heap.size V2.heap.size (.slice (some (V2.heap.size,0)) 4 4)):=fun g hg=>.inr (by simp[Value.ownBlock]at hg;omega)
 have HC0:=xh hal
 have OF0:=xh (OF.out.below hal)
 clear hal
 obtain⟨S,hS⟩:∃S,V2.heap.size=S:=⟨_,rfl⟩
 go_upto_region 8 with (fail)
 obtain⟨W0,hW0⟩:∃W0,V2.alloc (.cells #[.int .u8 84,.int .u8 1,.int .u8 fr,.int .u8 to] 5)=W0:=⟨_,rfl⟩
 rw[hW0]at R0 T0 HC0 OF0 ⊢
 clear hW0 u0 u1 u2 u3 u4
 rw[hS]at R0 T0 SP0 HC0
 have HSS:=xh hS
 clear hS
 obtain⟨⟨u0,u1,u2,u3,u4⟩,-⟩:=OF0.out
 go_wp2_with fail
 clear u0 u1 u2 u3 u4
 refine(zoN ep _ HN.out.2.2.1).mono ?_
 rintro e U0 ⟨r0,rfl,ho,hb⟩
 have R0b:=xh (R0.out.below hb)
 have T0b:=xh (T0.out.below hb)
 have OF0b:=xh (OF0.out.below hb)
 have HC0b:Hid (Below S V2 U0):=HC0.out.trans (hb.mono (Nat.le_trans (Nat.le_of_eq HSS.out.symm) HC0.out.size))
 have HQ0:Hid (S≤U0.heap.size):=Nat.le_trans (Nat.le_of_eq HSS.out.symm) HC0b.out.size
 have RR0:=xh ho
 clear ho hb
 obtain⟨⟨u0,u1,u2,u3,u4⟩,-⟩:=OF0b.out
 go_wp2_with (at_builtin;(skip;refine zbQ rfl (.tmp 33) (.tmp 36) rfl S ([84,1,fr,to]) R0b.out W0.heap.size (lo ep 4) RR0.out (by have:=HLN.out;simp[zan]<;>omega) HQ0.out ?_;intro v1 W1 ho9 hg9 hs9;(have HC1:Hid (Below S V2 W1):=HC0b.out.grown hg9 (HQ0.out) (fun k hk=>(R0b.out.lt k hk).1));(have SP1:=xh (SP0.out.next HQ0.out hs9));(have T1:=xh (T0b.out.grown SP0.out hg9));(have OF1:=xh (OF.out.below (by rw[HSS.out];exact HC1.out)));(have R1:=xh ho9);clear ho9 hg9 hs9;clear u0 u1 u2 u3 u4;obtain⟨⟨u0,u1,u2,u3,u4⟩,-⟩:=OF1.out))
 clear u0 u1 u2 u3 u4
 refine(zoN pe _ HN.out.2.2.2.1).mono ?_
 rintro e U1 ⟨r1,rfl,ho,hb⟩
 have R1b:=xh (R1.out.below hb)
 have T1b:=xh (T1.out.below hb)
 have OF1b:=xh (OF1.out.below hb)
 have HC1b:Hid (Below S V2 U1):=HC1.out.trans (hb.mono (Nat.le_trans (Nat.le_of_eq HSS.out.symm) HC1.out.size))
 have HQ1:Hid (S≤U1.heap.size):=Nat.le_trans (Nat.le_of_eq HSS.out.symm) HC1b.out.size
 have RR1:=xh ho
 clear ho hb
 obtain⟨⟨u0,u1,u2,u3,u4⟩,-⟩:=OF1b.out
 go_wp2_with (at_builtin;(skip;refine zbQ rfl (.tmp 38) (.tmp 41) rfl S ([84,1,fr,to]++lo ep 4) R1b.out W1.heap.size (lo pe 4) RR1.out (by have:=HLN.out;simp[zan]<;>omega) HQ1.out ?_;intro v2 W2 ho9 hg9 hs9;(have HC2:Hid (Below S V2 W2):=HC1b.out.grown hg9 (HQ1.out) (fun k hk=>(R1b.out.lt k hk).1));(have SP2:=xh (SP1.out.next HQ1.out hs9));(have T2:=xh (T1b.out.grown SP1.out hg9));(have OF2:=xh (OF.out.below (by rw[HSS.out];exact HC2.out)));(have R2:=xh ho9);clear ho9 hg9 hs9;clear u0 u1 u2 u3 u4;obtain⟨⟨u0,u1,u2,u3,u4⟩,-⟩:=OF2.out))
 clear u0 u1 u2 u3 u4
 refine(znS M _ (by have:=HM1.out;omega)).mono ?_
 rintro e U2 ⟨r2,rfl,ho,hb⟩
 have R2b:=xh (R2.out.below hb)
 have T2b:=xh (T2.out.below hb)
 have OF2b:=xh (OF2.out.below hb)
 have HC2b:Hid (Below S V2 U2):=HC2.out.trans (hb.mono (Nat.le_trans (Nat.le_of_eq HSS.out.symm) HC2.out.size))
 have HQ2:Hid (S≤U2.heap.size):=Nat.le_trans (Nat.le_of_eq HSS.out.symm) HC2b.out.size
 have RR2:=xh ho
 clear ho hb
 obtain⟨⟨u0,u1,u2,u3,u4⟩,-⟩:=OF2b.out
 go_wp2_with (first
  | (at_builtin;(skip;refine zbQ rfl (.tmp 43) (.tmp 45) rfl S ([84,1,fr,to]++lo ep 4++lo pe 4) R2b.out W2.heap.size (lo M 2) RR2.out (by have:=HLN.out;simp[zan]<;>omega) HQ2.out ?_;intro v3 W3 ho9 hg9 hs9;(have HC3:Hid (Below S V2 W3):=HC2b.out.grown hg9 (HQ2.out) (fun k hk=>(R2b.out.lt k hk).1));(have SP3:=xh (SP2.out.next HQ2.out hs9));(have T3:=xh (T2b.out.grown SP2.out hg9));(have OF3:=xh (OF.out.below (by rw[HSS.out];exact HC3.out)));(have R3:=xh ho9);(have hal:=(Below.refl W3.heap.size W3).alloc xl (.cells #[.int .u8 (ps.length:Int)] 5));(have R3b:=xh (R3.out.below hal));(have T3b:=xh (T3.out.below hal));(have HQ3a:Hid (S≤W3.heap.size):=Nat.le_trans (Nat.le_of_eq HSS.out.symm) HC3.out.size);(have HC3b:Hid (Below S V2 (W3.alloc (.cells #[.int .u8 (ps.length:Int)] 5))):=HC3.out.trans (hal.mono HQ3a.out));(have HQ3:Hid (S≤(W3.alloc (.cells #[.int .u8 (ps.length:Int)] 5)).heap.size):=Nat.le_trans HQ3a.out hal.size);(have RR3:=xh (zck W3 W3.heap.size (ps.length:Int) xl W3.heap.size rfl));clear hal;clear ho9 hg9 hs9;clear u0 u1 u2 u3 u4;obtain⟨⟨u0,u1,u2,u3,u4⟩,-⟩:=OF3.out))
  | (at_builtin;(skip;refine zbQ rfl (.tmp 47) (.tmp 52) rfl S ([84,1,fr,to]++lo ep 4++lo pe 4++lo M 2) R3b.out W3.heap.size [(ps.length:Int)] RR3.out (by have:=HLN.out;simp[zan]<;>omega) HQ3.out ?_;intro v4 W4 ho9 hg9 hs9;(have HC4:Hid (Below S V2 W4):=HC3b.out.grown hg9 (HQ3.out) (fun k hk=>(R3b.out.lt k hk).1));(have SP4:=xh (SP3.out.next HQ3.out hs9));(have T4:=xh (T3b.out.grown SP3.out hg9));(have OF4:=xh (OF.out.below (by rw[HSS.out];exact HC4.out)));(have R4:=xh ho9);(have R4b:=R4);(have T4b:=T4);(have HC4b:=HC4);(have HQ4:Hid (S≤W4.heap.size):=Nat.le_trans (Nat.le_of_eq HSS.out.symm) HC4.out.size);clear ho9 hg9 hs9;clear u0 u1 u2 u3 u4;obtain⟨⟨u0,u1,u2,u3,u4⟩,-⟩:=OF4.out))
  | (at_builtin;(skip;refine zbQ rfl (.tmp 54) (.tmp 55) rfl S ([84,1,fr,to]++lo ep 4++lo pe 4++lo M 2++[(ps.length:Int)]) R4b.out V1.heap.size P T4.out.1 (by have:=HLN.out;simp[zan]<;>omega) HQ4.out ?_;intro v5 W5 ho9 hg9 hs9;(have HC5:Hid (Below S V2 W5):=HC4b.out.grown hg9 (HQ4.out) (fun k hk=>(R4b.out.lt k hk).1));(have SP5:=xh (SP4.out.next HQ4.out hs9));(have T5:=xh (T4b.out.grown SP4.out hg9));(have OF5:=xh (OF.out.below (by rw[HSS.out];exact HC5.out)));(have R5:=xh ho9);clear ho9 hg9 hs9;clear u0 u1 u2 u3 u4;obtain⟨⟨u0,u1,u2,u3,u4⟩,-⟩:=OF5.out)))
 clear u0 u1 u2 u3 u4
 have hsp:=zjX fr ep to pe ps M (sumN (frB0 fr ep to pe ps)) P HP.out HM.out HM1.out.2 rfl
 have HR9:=xh R5.out
 rw[hsp.1]at HR9
 have HSP:=xh hsp
 clear hsp
 obtain⟨a8,c8,rfl⟩:=zap HR9.out
 have BS:=xh (zaq HR9.out (zhU HOK.out) (by rw[zbP,HP.out];have:=HLN.out;omega))
 refine(zjT _ _ _ BS.out).mono ?_
 rintro e U9 ⟨rfl,hw⟩
 subst hw
 have hsb:=zdM (frB0 fr ep to pe ps)
 generalize sumN (frB0 fr ep to pe ps)=Z at*
 go_wp2_with fail
 refine(znS Z _ hsb).mono ?_
 rintro e U8 ⟨r8,rfl,ho,hb⟩
 have R8:=xh (HR9.out.below hb)
 have HC8:Hid (Below S V2 U8):=HC5.out.trans (hb.mono (Nat.le_trans (Nat.le_of_eq HSS.out.symm) HC5.out.size))
 have HQ8:Hid (S≤U8.heap.size):=Nat.le_trans (Nat.le_of_eq HSS.out.symm) HC8.out.size
 have RR8:=xh ho
 clear ho hb
 go_wp2_with (at_builtin;(skip;refine zbQ rfl (.tmp 57) (.tmp 60) rfl S (frB0 fr ep to pe ps) R8.out W5.heap.size (lo Z 2) RR8.out (by have:=HLN.out;rw[zbP,HP.out,zan];omega) HQ8.out ?_;intro v9 W9 ho9 hg9 hs9;(have HC9:Hid (Below S V2 W9):=HC8.out.grown hg9 HQ8.out (fun k hk=>(R8.out.lt k hk).1));(have R9:=xh ho9);clear ho9 hg9 hs9))
 go_ret2
 rw[HSP.out.2]at R9
 exact zgY HOK.out (zbs R9.out (Nat.le_trans HB.out.size (Nat.le_of_eq HSS.out))) (HB.out.trans (HC9.out.mono (Nat.le_trans HB.out.size (Nat.le_of_eq HSS.out))))
theorem zb8 (fr ep to pe:Int)(a:Option Addr)(c:Nat)(ps:List Pt)(w:World)(h:Ps w (.slice a ps.length c) ps)(hf:∀i,i<ps.length→zaR (ps.getD i zPt)):Calls Tryz.prog 13 #[.agg (xA fr ep to pe (.slice a ps.length c))] w fun e w'=>e=.returned (xI (frK fr ep to pe ps))∧Below w.heap.size w w':=by
 have OF:=xh (zav w fr ep to pe (.slice a ps.length c) 24 w.heap.size rfl)
 have HB:Hid (Below w.heap.size w (w.alloc (.cells (xA fr ep to pe (.slice a ps.length c)) 24))):=xr.alloc xl _
 have cB:=xh (zeZ fr ep to pe a c ps _ (h.below HB.out) hf)
 clear h hf
 obtain⟨⟨u0,u1,u2,u3,u4⟩,-⟩:=OF.out
 go_enter Tryz.func13,Tryz.ntmps13
 go_wp2_with fail
 refine cB.out.mono ?_
 rintro e V1 ⟨⟨a9,c9,rfl,-,-,-⟩,hb⟩
 have HB2:=xh (HB.out.trans (hb.mono HB.out.size))
 clear hb u0 u1 u2 u3 u4
 go_wp2_with fail
 go_ret
 exact⟨rfl,HB2.out⟩
theorem zhI (fr ep to pe:Int)(a:Option Addr)(c:Nat)(ps:List Pt)(id:Int)(w:World)(h:Ps w (.slice a ps.length c) ps)(hf:∀i,i<ps.length→zaR (ps.getD i zPt)):
  Calls Tryz.prog 15 #[.agg (xA fr ep to pe (.slice a ps.length c)),xI id] w fun e w'=>e=.returned (.bool (decide (FrOk fr ep to pe ps∧fr≠id∧(to=id∨to=255))))∧Below w.heap.size w w':=by
 have OF:=xh (zav w fr ep to pe (.slice a ps.length c) 24 w.heap.size rfl)
 have HB:Hid (Below w.heap.size w (w.alloc (.cells (xA fr ep to pe (.slice a ps.length c)) 24))):=xr.alloc xl _
 have cC:=xh (zb8 fr ep to pe a c ps _ (h.below HB.out) hf)
 clear h hf
 obtain⟨⟨u0,u1,u2,u3,u4⟩,-⟩:=OF.out
 by_cases hok:FrOk fr ep to pe ps
 rotate_left
 ·skip
  have HK:frK fr ep to pe ps=1:=if_neg hok
  rw[show decide (FrOk fr ep to pe ps∧fr≠id∧(to=id∨to=255))=false from decide_eq_false (fun h=>hok h.1)]
  rw[HK]at cC
  clear HK
  go_enter Tryz.func15,Tryz.ntmps15
  go_wp2_with fail
  refine cC.out.mono ?_
  rintro e V1 ⟨rfl,hb⟩
  have HB2:=xh (HB.out.trans (hb.mono HB.out.size))
  have OF2:=xh (OF.out.below hb)
  clear hb u0 u1 u2 u3 u4
  obtain⟨⟨u0,u1,u2,u3,u4⟩,-⟩:=OF2.out
  go_wp2_with fail
  go_ret
  exact⟨rfl,HB2.out⟩
 by_cases h1:fr=id
 ·skip
  have HK:frK fr ep to pe ps=0:=if_pos hok
  have b1:(fr !=id)=false:=by simp[h1]
  rw[show decide (FrOk fr ep to pe ps∧fr≠id∧(to=id∨to=255))=false from decide_eq_false (fun h=>h.2.1 h1)]
  rw[HK]at cC
  clear HK h1 hok
  go_enter Tryz.func15,Tryz.ntmps15
  go_wp2_with fail
  refine cC.out.mono ?_
  rintro e V1 ⟨rfl,hb⟩
  have HB2:=xh (HB.out.trans (hb.mono HB.out.size))
  have OF2:=xh (OF.out.below hb)
  clear hb u0 u1 u2 u3 u4
  obtain⟨⟨u0,u1,u2,u3,u4⟩,-⟩:=OF2.out
  go_wp2_with fail
  go_ret
  exact⟨rfl,HB2.out⟩
 by_cases h2:to=id
 ·skip
  have HK:frK fr ep to pe ps=0:=if_pos hok
  have b1:(fr !=id)=true:=by simpa using h1
  have b2:(to==id)=true:=by simpa using h2
  rw[show decide (FrOk fr ep to pe ps∧fr≠id∧(to=id∨to=255))=true from decide_eq_true ⟨hok,h1,.inl h2⟩]
  rw[HK]at cC
  clear HK h1 h2 hok
  go_enter Tryz.func15,Tryz.ntmps15
  go_wp2_with fail
  refine cC.out.mono ?_
  rintro e V1 ⟨rfl,hb⟩
  have HB2:=xh (HB.out.trans (hb.mono HB.out.size))
  have OF2:=xh (OF.out.below hb)
  clear hb u0 u1 u2 u3 u4
  obtain⟨⟨u0,u1,u2,u3,u4⟩,-⟩:=OF2.out
  go_wp2_with fail
  go_ret
  exact⟨rfl,HB2.out⟩
 by_cases h3:to=255
 ·skip
  have HK:frK fr ep to pe ps=0:=if_pos hok
  have b1:(fr !=id)=true:=by simpa using h1
  have b2:(to==id)=false:=by simpa using h2
  have b3:(to==255)=true:=by simpa using h3
  rw[show decide (FrOk fr ep to pe ps∧fr≠id∧(to=id∨to=255))=true from decide_eq_true ⟨hok,h1,.inr h3⟩]
  rw[HK]at cC
  clear HK h1 h2 h3 hok
  go_enter Tryz.func15,Tryz.ntmps15
  go_wp2_with fail
  refine cC.out.mono ?_
  rintro e V1 ⟨rfl,hb⟩
  have HB2:=xh (HB.out.trans (hb.mono HB.out.size))
  have OF2:=xh (OF.out.below hb)
  clear hb u0 u1 u2 u3 u4
  obtain⟨⟨u0,u1,u2,u3,u4⟩,-⟩:=OF2.out
  go_wp2_with fail
  go_ret
  exact⟨rfl,HB2.out⟩
 have HK:frK fr ep to pe ps=0:=if_pos hok
 have b1:(fr !=id)=true:=by simpa using h1
 have b2:(to==id)=false:=by simpa using h2
 have b3:(to==255)=false:=by simpa using h3
 rw[show decide (FrOk fr ep to pe ps∧fr≠id∧(to=id∨to=255))=false from decide_eq_false (fun h=>by rcases h.2.2 with h|h;exact h2 h;exact h3 h)]
 rw[HK]at cC
 clear HK h1 h2 h3 hok
 go_enter Tryz.func15,Tryz.ntmps15
 go_wp2_with fail
 refine cC.out.mono ?_
 rintro e V1 ⟨rfl,hb⟩
 have HB2:=xh (HB.out.trans (hb.mono HB.out.size))
 have OF2:=xh (OF.out.below hb)
 clear hb u0 u1 u2 u3 u4
 obtain⟨⟨u0,u1,u2,u3,u4⟩,-⟩:=OF2.out
 go_wp2_with fail
 go_ret
 exact⟨rfl,HB2.out⟩
end Go.Proofs.YtjghebcnmoojmaaGreat
