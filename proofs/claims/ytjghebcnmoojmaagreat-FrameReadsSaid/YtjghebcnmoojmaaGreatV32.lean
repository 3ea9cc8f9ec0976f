/- A beacon read out of bytes: -/
import Derived.Test.YtjghebcnmoojmaaGreatV31
set_option maxRecDepth 100000
set_option maxHeartbeats 32000000
namespace Go.Proofs.YtjghebcnmoojmaaGreat
open Go.RowKit MX
def zc4 (xs:List Int)(r:List (Int×Int)×(Int×Int)):List (Int×Int)×(Int×Int):=
 (r.1++[((numS xs 1 r.2).1,(numS xs 4 (numS xs 1 r.2).2).1)],(numS xs 4 (numS xs 1 r.2).2).2)
def itE (xs:List Int):Nat→List (Int×Int)×(Int×Int)→List (Int×Int)×(Int×Int)
 | 0,r=>r
 | n+1,r=>itE xs n (zc4 xs r)
theorem zfa (xs:List Int):∀(n:Nat) (r:List (Int×Int)×(Int×Int)),itE xs (n+1) r=zc4 xs (itE xs n r)
 | 0,_=>rfl
 | n+1,r=>by rw[itE,zfa xs n (zc4 xs r),itE]
theorem zjg (xs:List Int):∀(n:Nat) (r:List (Int×Int)×(Int×Int)),(itE xs n r).1.length=r.1.length+n
 | 0,_=>rfl
 | n+1,r=>by rw[zfa,zc4];simp[zjg xs n r];omega
theorem zec {xs:List Int}{n p e:Int}(h:e≠0):numS xs n (p,e)=(0,(p,e)):=by simp[numS,h]
theorem zdV (xs:List Int)(n p:Int):numS xs n (p,0)=getS xs p n:=by simp[numS]
theorem zdK {xs:List Int}{p e:Int}(h:e≠0):∀(n:Nat) (ys:List (Int×Int)),(itE xs n (ys,(p,e))).2=(p,e)
 | 0,_=>rfl
 | n+1,ys=>by
  have h1:zc4 xs (ys,(p,e))=(ys++[(0,0)],(p,e)):=by simp only[zc4,zec h]
  rw[itE,h1]
  exact zdK h n _
theorem zmx (xs:List Int):∀(n:Nat) (p:Int) (acc:List (Int×Int)),ecP xs n p acc=if(itE xs n (acc,(p,0))).2.2≠0 then .inl (itE xs n (acc,(p,0))).2.2 else .inr ((itE xs n (acc,(p,0))).1,(itE xs n (acc,(p,0))).2.1)
 | 0,p,acc=>by simp[ecP,itE]
 | n+1,p,acc=>by
  obtain⟨g1,g2,g3,hg⟩:∃x y z,getS xs p 1=(x,y,z):=⟨_,_,_,rfl⟩
  obtain⟨m1,m2,m3,hm⟩:∃x y z,getS xs g2 4=(x,y,z):=⟨_,_,_,rfl⟩
  rw[ecP,itE]
  simp only[hg,hm]
  by_cases h:g3=0
  ·subst h
   have hs:zc4 xs (acc,(p,0))=(acc++[(g1,m1)],(m2,m3)):=by simp only[zc4,zdV,hg,hm]
   rw[if_neg (by simp),hs]
   by_cases h2:m3=0
   ·subst h2
    rw[if_neg (by simp)]
    exact zmx xs n m2 _
   ·rw[if_pos h2,zdK h2,if_pos h2]
  ·have hs:zc4 xs (acc,(p,0))=(acc++[(g1,0)],(g2,g3)):=by simp only[zc4,zdV,hg,zec h]
   rw[if_pos h,hs,zdK h,if_pos h]
structure EP where
 M:Int
 ys:List (Int×Int)
 to:Int
 e:Int
def EP.no (e:Int):EP:=⟨0,[],0,e⟩
def zbu (M:Int)(r:List (Int×Int)×(Int×Int)):EP:=if r.2.2=0 then(if BeOk M r.1 then⟨M,r.1,r.2.1,0⟩else .no 4)else .no r.2.2
def zaj (xs:List Int)(k:Int):EP:=
 zbu (numS xs 4 (k,0)).1 (itE xs (numS xs 1 (numS xs 4 (k,0)).2).1.toNat ([],(numS xs 1 (numS xs 4 (k,0)).2).2))
theorem zoe (xs:List Int)(k:Int):bePF xs k=if(zaj xs k).e≠0 then .inl (zaj xs k).e else .inr ((zaj xs k).M,(zaj xs k).ys,(zaj xs k).to):=by
 obtain⟨g1,g2,g3,hg⟩:∃x y z,getS xs k 4=(x,y,z):=⟨_,_,_,rfl⟩
 obtain⟨m1,m2,m3,hm⟩:∃x y z,getS xs g2 1=(x,y,z):=⟨_,_,_,rfl⟩
 unfold bePF zaj
 simp only[zdV,hg,hm]
 by_cases h:g3=0
 ·subst h
  rw[if_neg (by simp)]
  simp only[zdV,hm]
  by_cases h2:m3=0
  ·subst h2
   rw[if_neg (by simp),zmx]
   generalize itE xs m1.toNat ([],(m2,0))=r
   obtain⟨ys,q,e⟩:=r
   simp only
   by_cases h3:e=0
   ·subst h3
    unfold zbu
    simp only
    by_cases h4:BeOk g1 ys
    ·simp[h4]
    ·simp[h4,EP.no]
   ·unfold zbu
    simp[h3,EP.no]
  ·have h5:=zdK (xs:=xs) (p:=m2) h2 m1.toNat []
   rw[if_pos h2]
   unfold zbu
   rw[h5]
   simp[h2,EP.no]
 ·rw[if_pos h]
  simp only[zec h,Int.toNat_zero,itE]
  unfold zbu
  simp[h,EP.no]
theorem zhA (args:Array Value)(w:World):(callFunc 31 args).run Tryz.prog w=.ok (.enter 31 args) w:=by simp[go_sem]
theorem zkA {ops:Array Oper}{o:Oper}{a:Act}{W:World}{K:Act→World→Prop}{Q:Exit→Act→World→Prop}{E:Prop}(hg:o.guard=none)(s x:Operand)
  (ho:o.op=.call {callee:=.builtin .append,args:=#[s,x],argTypes:=#[40,40]}) (w1:World) (y1 y2:Int) (hW:W=w1.alloc (.cells #[xI y1,xI y2] 113)) (S:Nat) (v:Value) (xs:List (Int×Int))
  (hs:a.eval s=v) (hx:a.eval x=.slice (some (w1.heap.size,0)) 1 1) (hown:OwE w1 S v xs) (hl:xs.length≤3000) (hS:S≤w1.heap.size)
  (hK:∀g cap w',OwE w' S (.slice (some (xQ g 0)) (xs.length+1) cap) (xs++[(y1,y2)])→Below S w1 w'→K (a.put o.dst (.slice (some (xQ g 0)) (xs.length+1) cap)) w'):
  if Region.wanted o (yielded ops a.tmps)=true then Oper.wp Tryz.prog o a W K Q else E:=by
 have hw:Region.wanted o (yielded ops a.tmps)=true:=by simp[Region.wanted,hg]
 rw[if_pos hw]
 subst hW
 have hb:Below S w1 (w1.alloc (.cells #[xI y1,xI y2] 113)):=(Below.refl S w1).alloc hS _
 obtain⟨g,cap,w',hr,h2,h3,_⟩:=zgd RE (w1.alloc (.cells #[xI y1,xI y2] 113)) o.type S v xs (zae hown (xr.alloc xl _)) w1.heap.size (y1,y2) (zlo w1 y1 y2) hl (by simp;omega)
 unfold Oper.wp
 rw[zbL ho hs hx hr]
 exact hK g cap w' h2 (hb.grown h3 (by simp;omega) (fun k hk=>(hown.lt k hk).1))
theorem zhO (N1:Int)(ys:List (Int×Int))(s4 e4:Int)(a3:Option Addr)(c3:Nat)(q:Bool)(hq:q=true↔BeOk N1 ys):∃(M9:Int) (a9:Option Addr) (l9 c9:Nat) (t9 e9:Int),
  bdV e4 q N1 a3 ys.length c3 s4=.tuple #[.agg #[xI M9,.slice a9 l9 c9],xI t9,xI e9]∧M9=(zbu N1 (ys,(s4,e4))).M∧t9=(zbu N1 (ys,(s4,e4))).to∧e9=(zbu N1 (ys,(s4,e4))).e∧∀W S,OwE W S (.slice a3 ys.length c3) ys→OwE W S (.slice a9 l9 c9) (zbu N1 (ys,(s4,e4))).ys:=by
 unfold bdV zbu
 by_cases h0:e4=0
 ·subst h0
  by_cases hb:BeOk N1 ys
  ·obtain rfl:q=true:=hq.2 hb
   rw[show zai 0 true=0 from rfl,if_pos rfl,if_pos rfl,if_pos hb]
   exact⟨_,_,_,_,_,_,rfl,rfl,rfl,rfl,fun W S h=>h⟩
  ·obtain rfl:q=false:=by cases q with
    | false=>rfl
    | true=>exact absurd (hq.1 rfl) hb
   rw[show zai 0 false=4 from rfl,if_neg (by decide),if_pos rfl,if_neg hb]
   exact⟨_,_,_,_,_,_,rfl,rfl,rfl,rfl,fun W S h=>zdy W S⟩
 ·rw[show zai e4 q=e4 by simp[zai,h0],if_neg h0,if_neg h0]
  exact⟨_,_,_,_,_,_,rfl,rfl,rfl,rfl,fun W S h=>zdy W S⟩
theorem ziK (v:Value)(k:Int)(xs:List Int)(w:World)(hv:Bs w v xs):Calls Tryz.prog 91 #[v,xI k] w fun e w'=>∃r,e=.returned (.tuple #[.agg #[xI (zaj xs k).M,r],xI (zaj xs k).to,xI (zaj xs k).e])∧OwE w' w.heap.size r (zaj xs k).ys∧Below w.heap.size w w':=by
 obtain⟨a,l,c,rfl⟩:=zal hv
 obtain⟨N1,s1,e1,h1⟩:∃x y z,numS xs 4 (k,0)=(x,y,z):=⟨_,_,_,rfl⟩
 obtain⟨cn,s2,e2,h2⟩:∃x y z,numS xs 1 (s1,e1)=(x,y,z):=⟨_,_,_,rfl⟩
 have hcn:0≤cn∧cn≤255:=by have:=zem hv.1 (s1,e1);rw[h2]at this;exact this
 obtain⟨C,rfl⟩:∃C:Nat,cn=C:=⟨cn.toNat,by omega⟩
 have he:zaj xs k=zbu N1 (itE xs C ([],(s2,e2))):=by
  unfold zaj
  simp only[h1,h2,Int.toNat_natCast]
 rw[he]
 clear he
 have HV:=xh hv
 have c1:∀V,Rd V (w.heap.size+1) k 0→Bs V (.slice a l c) xs→Calls Tryz.prog 31 #[xP (w.heap.size+1),.slice a l c,xI 4] V fun e w'=>e=.returned (xI N1)∧Rd w' (w.heap.size+1) s1 e1∧Onl (w.heap.size+1) V w':=fun V h hv=>by
  have h:=zad (w.heap.size+1) (.slice a l c) xs 4 k 0 V h hv
  rw[h1]at h
  exact h
 have c2:∀V,Rd V (w.heap.size+1) s1 e1→Bs V (.slice a l c) xs→Calls Tryz.prog 31 #[xP (w.heap.size+1),.slice a l c,xI 1] V fun e w'=>e=.returned (xI C)∧Rd w' (w.heap.size+1) s2 e2∧Onl (w.heap.size+1) V w':=fun V h hv=>by
  have h:=zad (w.heap.size+1) (.slice a l c) xs 1 s1 e1 V h hv
  rw[h2]at h
  exact h
 obtain⟨st,hst⟩:∃st,(([]:List (Int×Int)),(s2,e2))=st:=⟨_,rfl⟩
 rw[hst]
 have HST:=xh hst
 clear hv h1 h2 hst
 go_enter Tryz.func91,Tryz.ntmps91
 go_wp2_with fail
 refine(za6 _ _).mono ?_
 rintro e _ ⟨rfl,rfl⟩
 go_wp2_with fail
 have OR:=xh ((za2 w 0 xS 42 w.heap.size rfl).below (xr.alloc xl (.cells #[xI k,xI 0] 89)))
 have R:=xh (zaO (w.alloc (.cells #[xI 0,xS] 42)) k (w.heap.size+1) (by simp))
 have HB:Hid (Below w.heap.size w ((w.alloc (.cells #[xI 0,xS] 42)).alloc (.cells #[xI k,xI 0] 89))):=(xr.alloc xl _).alloc (by simp) _
 generalize ((w.alloc (.cells #[xI 0,xS] 42)).alloc (.cells #[xI k,xI 0] 89))=V0 at*
 refine(c1 _ R.out (zaa HV.out HB.out)).mono ?_
 rintro e V1 ⟨rfl,hR,ho⟩
 replace OR:=xh (OR.out.onl ho (by omega));replace HB:=xh (HB.out.trans (ho.below (by omega) HB.out.size));replace R:=xh hR;clear ho hR
 have HG:Hid ((w.heap.size+1)<V1.heap.size):=World.block_lt_of_cell? V1 _ R.out.1
 go_wp2_with fail
 have OX:=xh (za2 V1 N1 xS 42 V1.heap.size rfl)
 have hb:Below V1.heap.size V1 (V1.alloc (.cells #[xI N1,xS] 42)):=(Below.refl _ V1).alloc xl _
 replace OR:=xh (OR.out.below hb);replace HB:=xh (HB.out.trans (hb.mono HB.out.size));replace R:=xh (R.out.below hb);clear hb
 generalize V1.alloc (.cells #[xI N1,xS] 42)=V2 at*
 obtain⟨X,hX⟩:∃X,V1.heap.size=X:=⟨_,rfl⟩
 rw[hX]at HG OX
 simp only[hX]
 clear hX
 refine(c2 _ R.out (zaa HV.out HB.out)).mono ?_
 rintro e V4 ⟨rfl,hR,ho⟩
 replace OR:=xh (OR.out.onl ho (by omega));replace OX:=xh (OX.out.onl ho (by have:=HG.out;omega));replace HB:=xh (HB.out.trans (ho.below (by omega) HB.out.size));replace R:=xh hR;clear ho hR
 have HX:Hid (X<V4.heap.size):=OX.out.lt
 clear c1 c2
 go_wp2_with fail
 obtain⟨S,hS⟩:∃S,V4.heap.size=S:=⟨_,rfl⟩
 rw[hS]at HX
 have HS:Hid (S≤V4.heap.size):=Nat.le_of_eq hS.symm
 clear hS
 have R0:Hid (Rd V4 (w.heap.size+1) (itE xs 0 st).2.1 (itE xs 0 st).2.2):=by have h:=HST.out;rw[←h];exact R.out
 have HL0:Hid ((itE xs 0 st).1=[]):=by have h:=HST.out;rw[←h];rfl
 have HLN:Hid (∀q,(itE xs q st).1.length=q):=fun q=>by have h:=HST.out;rw[←h,zjg];simp
 clear R HST
 go_loopw [18] (fun i wr=>∃(q:Nat) (u:Value),q≤C∧i=xI q∧Rd wr (w.heap.size+1) (itE xs q st).2.1 (itE xs q st).2.2∧Own2 wr X N1 u∧OwE wr S u (itE xs q st).1∧Own2 wr w.heap.size 0 xS∧Below w.heap.size w wr∧S≤wr.heap.size) (fun i _=>C-(intOf i).toNat)
 case atStart=>exact⟨0,_,Nat.zero_le _,rfl,R0.out,OX.out,by rw[HL0.out];exact zdy _ _,OR.out,HB.out,HS.out⟩
 case round=>
  obtain⟨q,u,hq,rfl,hR,hX,hown,hOR,hbel,hSS⟩:=hrel
  have HL:=xh (HLN.out q)
  have HSU:=xh (zfa xs q st)
  obtain⟨⟨ys,s4,e4⟩,hrd⟩:∃r,itE xs q st=r:=⟨_,rfl⟩
  rw[hrd]at hR hown HL HSU
  simp only at hR hown HL HSU
  obtain⟨a3,c3,rfl⟩:=hown.form
  have R:=xh hR
  have OX:=xh hX
  have OW:=xh hown
  have OR:=xh hOR
  have HB:=xh hbel
  have HS:=xh hSS
  have HRD:=xh hrd
  clear hR hX hown hOR hbel hSS hrd
  have hg1:(w.heap.size+1)<X:=HG.out
  have hg2:X<S:=HX.out
  have hyl:ys.length≤255:=by have:=HL.out;omega
  by_cases hlt:q<C
  ·obtain⟨y1,s5,e5,hO⟩:∃(y1 s5 e5:Int),numS xs 1 (s4,e4)=(y1,s5,e5):=⟨_,_,_,rfl⟩
   obtain⟨y2,s6,e6,hO2⟩:∃(y2 s6 e6:Int),numS xs 4 (s5,e5)=(y2,s6,e6):=⟨_,_,_,rfl⟩
   have cN1:Calls Tryz.prog 31 #[xP (w.heap.size+1),.slice a l c,xI 1] wr.drew fun e w'=>∃v,e=.returned v∧(v=xI y1∧Rd w' (w.heap.size+1) s5 e5∧Onl (w.heap.size+1) wr.drew w'):=by
    have h:=zad (w.heap.size+1) (.slice a l c) xs 1 s4 e4 wr.drew R.out (zaa HV.out HB.out.drew)
    rw[hO]at h
    exact h.mono fun e w' ⟨h1,h2,h3⟩=>⟨_,h1,rfl,h2,h3⟩
   have cN2:∀V,Rd V (w.heap.size+1) s5 e5→Bs V (.slice a l c) xs→Calls Tryz.prog 31 #[xP (w.heap.size+1),.slice a l c,xI 4] V fun e w'=>∃v,e=.returned v∧(v=xI y2∧Rd w' (w.heap.size+1) s6 e6∧Onl (w.heap.size+1) V w'):=fun V hr hb=>by
    have h:=zad (w.heap.size+1) (.slice a l c) xs 4 s5 e5 V hr hb
    rw[hO2]at h
    exact h.mono fun e w' ⟨h1,h2,h3⟩=>⟨_,h1,rfl,h2,h3⟩
   have HN:Hid (itE xs (q+1) st=(ys++[(y1,y2)],(s6,e6))):=by show _=_;rw[HSU.out,zc4];simp only[hO,hO2]
   clear hO hO2 HSU
   have x1:=OX.out.1.2
   go_wp2_with fail
   go_region_law (first
    | (refine zcN (by rfl) 31 _ (fun v w'=>v=xI y1∧Rd w' (w.heap.size+1) s5 e5∧Onl (w.heap.size+1) wr.drew w') (zcV (by rfl) (by rfl) (by rfl) (by rfl) (by rfl) (zhA _ _)) cN1 ?_;rintro v w1 ⟨rfl,hR,ho⟩;clear cN1;have OX1:=xh ((show Own2 wr.drew X N1 _ from OX.out).onl ho (by omega));have OR1:=xh ((show Own2 wr.drew w.heap.size 0 _ from OR.out).onl ho (by omega));have OW1:Hid (OwE w1 S (.slice a3 ys.length c3) ys):=zaY (show OwE wr.drew S _ ys from zae OW.out xr.drew) ho (by omega);have HB1:=xh (HB.out.drew.trans (ho.below (by omega) HB.out.drew.size));have HS1:Hid (S≤w1.heap.size):=Nat.le_trans HS.out ho.size;have R1:=xh hR;clear hR ho;have d1:=OX1.out.1.2)
    | (refine zcN (by rfl) 31 _ (fun v w'=>v=xI y2∧Rd w' (w.heap.size+1) s6 e6∧Onl (w.heap.size+1) w1 w') (zcV (by rfl) (by rfl) (by rfl) (by rfl) (by rfl) (zhA _ _)) (cN2 w1 R1.out (zaa HV.out HB1.out)) ?_;rintro v w2 ⟨rfl,hR,ho⟩;clear cN2;have OX2:=xh (OX1.out.onl ho (by omega));have OR2:=xh (OR1.out.onl ho (by omega));have OW2:Hid (OwE w2 S (.slice a3 ys.length c3) ys):=zaY OW1.out ho (by omega);have HB2:=xh (HB1.out.trans (ho.below (by omega) HB1.out.size));have HS2:Hid (S≤w2.heap.size):=Nat.le_trans HS1.out ho.size;have R2:=xh hR;clear hR ho;have d2:=OX2.out.1.2;have d3:=OX2.out.allocs)
    | (refine zkA (by rfl) (.tmp 21) (.tmp 29) (by rfl) w2 y1 y2 rfl S _ ys (by rfl) (by rfl) OW2.out (by omega) HS2.out ?_;intro g cap w3 hown hb;have OX3:=xh (OX2.out.low hg2 hb);have OR3:=xh (OR2.out.low (S:=S) (by omega) hb);have R3:=xh (R2.out.low (S:=S) (by omega) hb);have OW3:=xh hown;have HB3:=xh (HB2.out.trans (hb.mono (by omega)));have HS3:Hid (S≤w3.heap.size):=Nat.le_trans HS2.out hb.size;clear hown hb;have f1:=OX3.out.1.2;have f2:=OX3.out.2))
   all_goals
    go_wp2_with fail
    have ho:Onl X w3 (w3.setCell (xQ X 1) (.slice (some (xQ g 0)) (ys.length+1) cap)):=(Onl.refl X w3).set 1 _
    have OX4:=xh (OX3.out.set1 (.slice (some (xQ g 0)) (ys.length+1) cap))
    have OR4:=xh (OR3.out.onl ho (by omega))
    have R4:=xh (R3.out.onl ho (by omega))
    have OW4:Hid (OwE (w3.setCell (xQ X 1) (.slice (some (xQ g 0)) (ys.length+1) cap)) S (.slice (some (xQ g 0)) (ys.length+1) cap) (ys++[(y1,y2)])):=zaY OW3.out ho hg2
    have HB4:=xh (HB3.out.trans (ho.below (by omega) HB3.out.size))
    have HS4:Hid (S≤(w3.setCell (xQ X 1) (.slice (some (xQ g 0)) (ys.length+1) cap)).heap.size):=Nat.le_trans HS3.out ho.size
    clear ho
    go_roundw
    case rel=>exact⟨q+1,_,by omega,by go_num,by rw[HN.out];exact R4.out,OX4.out,by rw[HN.out];exact OW4.out,OR4.out,HB4.out,HS4.out⟩
    case measure=>simp[intOf];omega
  ·obtain rfl:q=C:=by omega
   clear HSU
   go_wp2_with fail
   replace OX:Hid (Own2 wr.drew X N1 (.slice a3 ys.length c3)):=OX.out
   replace OR:Hid (Own2 wr.drew w.heap.size 0 xS):=OR.out
   replace R:Hid (Rd wr.drew (w.heap.size+1) s4 e4):=R.out
   replace OW:Hid (OwE wr.drew S (.slice a3 ys.length c3) ys):=zae OW.out xr.drew
   replace HB:Hid (Below w.heap.size w wr.drew):=HB.out.drew
   obtain⟨x0,x1⟩:=(show Own2 wr X N1 (.slice a3 ys.length c3)from OX.out).1
   by_cases hbt:BeOk N1 ys
   ·skip
    have cC:∀W,El W (.slice a3 ys.length c3) ys→Calls Tryz.prog 100 #[.agg #[xI N1,.slice a3 ys.length c3]] W fun e w'=>e=.returned (xI 0)∧Below W.heap.size W w':=fun W h=>zcX N1 _ ys true (by simp[hbt]) W h (by omega)
    obtain⟨M9,a9,l9,c9,t9,e9,hD,hM,ht,he,hOs⟩:=zhO N1 ys s4 e4 a3 c3 true (by simp[hbt])
    have cD:∀W,Rd W (w.heap.size+1) s4 e4→Calls Tryz.prog 111 #[xP (w.heap.size+1),.agg #[xI N1,.slice a3 ys.length c3],.bool true] W fun e w'=>e=.returned (.tuple #[.agg #[xI M9,.slice a9 l9 c9],xI t9,xI e9])∧Onl (w.heap.size+1) W w':=fun W h=>by
     have h:=zga (w.heap.size+1) N1 a3 ys.length c3 true s4 e4 W h
     rwa [hD]at h
    have HM:=xh hM
    have HT:=xh ht
    have HE:=xh he
    have HO:=xh hOs
    clear hbt hD hM ht he hOs
    go_region_with (first
     | (go_at_call 100;refine(cC _ OW.out.el).mono ?_;rintro e V88 ⟨rfl,hb⟩;replace OX:=xh (OX.out.below hb);replace OR:=xh (OR.out.below hb);replace OW:Hid (OwE V88 S (.slice a3 ys.length c3) ys):=zae OW.out hb;replace HB:=xh (HB.out.trans (hb.mono HB.out.size));replace R:=xh (R.out.below hb);clear hb;clear x0 x1;obtain⟨x0,x1⟩:=OX.out.1)
     | (go_at_call 111;refine(cD _ R.out).mono ?_;rintro e V99 ⟨rfl,ho⟩;replace OR:=xh (OR.out.onl ho (by omega));replace OW:Hid (OwE V99 S (.slice a3 ys.length c3) ys):=zaY OW.out ho (by omega);replace HB:=xh (HB.out.trans (ho.below (by omega) HB.out.size));clear ho;clear x0 x1;obtain⟨⟨u0,u1⟩,uf⟩:=OR.out))
    all_goals
     go_wp2_with fail
     have hs:=(OR.out.set M9 (.slice a9 l9 c9)).1
     have hbs:=zb0 (b:=w.heap.size) HB.out xl M9 (.slice a9 l9 c9)
     have ho9:Onl w.heap.size V99 (xC V99 w.heap.size #[xI M9,.slice a9 l9 c9]):=((Onl.refl _ V99).set 0 _).set 1 _
     have hos:=HO.out _ S (zaY OW.out ho9 (by omega))
     generalize (xC V99 w.heap.size #[xI M9,.slice a9 l9 c9]:World)=W5 at*
     obtain⟨s0_,s1_⟩:=hs
     exact bodyPost_ret (v:=.tuple #[.agg #[xI M9,.slice a9 l9 c9],xI t9,xI e9]) (by simp[results,Tryz.results91,go_sem,s0_,s1_]) rfl ⟨.slice a9 l9 c9,by rw[HRD.out,←HM.out,←HT.out,←HE.out],by rw[HRD.out];exact hos.mono (by omega),hbs⟩
   ·skip
    have cC:∀W,El W (.slice a3 ys.length c3) ys→Calls Tryz.prog 100 #[.agg #[xI N1,.slice a3 ys.length c3]] W fun e w'=>e=.returned (xI 1)∧Below W.heap.size W w':=fun W h=>zcX N1 _ ys false (by simp[hbt]) W h (by omega)
    obtain⟨M9,a9,l9,c9,t9,e9,hD,hM,ht,he,hOs⟩:=zhO N1 ys s4 e4 a3 c3 false (by simp[hbt])
    have cD:∀W,Rd W (w.heap.size+1) s4 e4→Calls Tryz.prog 111 #[xP (w.heap.size+1),.agg #[xI N1,.slice a3 ys.length c3],.bool false] W fun e w'=>e=.returned (.tuple #[.agg #[xI M9,.slice a9 l9 c9],xI t9,xI e9])∧Onl (w.heap.size+1) W w':=fun W h=>by
     have h:=zga (w.heap.size+1) N1 a3 ys.length c3 false s4 e4 W h
     rwa [hD]at h
    have HM:=xh hM
    have HT:=xh ht
    have HE:=xh he
    have HO:=xh hOs
    clear hbt hD hM ht he hOs
    go_region_with (first
     | (go_at_call 100;refine(cC _ OW.out.el).mono ?_;rintro e V88 ⟨rfl,hb⟩;replace OX:=xh (OX.out.below hb);replace OR:=xh (OR.out.below hb);replace OW:Hid (OwE V88 S (.slice a3 ys.length c3) ys):=zae OW.out hb;replace HB:=xh (HB.out.trans (hb.mono HB.out.size));replace R:=xh (R.out.below hb);clear hb;clear x0 x1;obtain⟨x0,x1⟩:=OX.out.1)
     | (go_at_call 111;refine(cD _ R.out).mono ?_;rintro e V99 ⟨rfl,ho⟩;replace OR:=xh (OR.out.onl ho (by omega));replace OW:Hid (OwE V99 S (.slice a3 ys.length c3) ys):=zaY OW.out ho (by omega);replace HB:=xh (HB.out.trans (ho.below (by omega) HB.out.size));clear ho;clear x0 x1;obtain⟨⟨u0,u1⟩,uf⟩:=OR.out))
    all_goals
     go_wp2_with fail
     have hs:=(OR.out.set M9 (.slice a9 l9 c9)).1
     have hbs:=zb0 (b:=w.heap.size) HB.out xl M9 (.slice a9 l9 c9)
     have ho9:Onl w.heap.size V99 (xC V99 w.heap.size #[xI M9,.slice a9 l9 c9]):=((Onl.refl _ V99).set 0 _).set 1 _
     have hos:=HO.out _ S (zaY OW.out ho9 (by omega))
     generalize (xC V99 w.heap.size #[xI M9,.slice a9 l9 c9]:World)=W5 at*
     obtain⟨s0_,s1_⟩:=hs
     exact bodyPost_ret (v:=.tuple #[.agg #[xI M9,.slice a9 l9 c9],xI t9,xI e9]) (by simp[results,Tryz.results91,go_sem,s0_,s1_]) rfl ⟨.slice a9 l9 c9,by rw[HRD.out,←HM.out,←HT.out,←HE.out],by rw[HRD.out];exact hos.mono (by omega),hbs⟩
end Go.Proofs.YtjghebcnmoojmaaGreat
