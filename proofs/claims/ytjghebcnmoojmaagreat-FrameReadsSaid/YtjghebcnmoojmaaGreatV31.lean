/- A batch read out of bytes: -/
import Derived.Test.YtjghebcnmoojmaaGreatV30
set_option maxRecDepth 100000
set_option maxHeartbeats 32000000
namespace Go.Proofs.YtjghebcnmoojmaaGreat
open Go.RowKit MX
section
open Go.Sort
theorem zaY {w w':World}{b S size n:Nat}{e:TypeId}{v:Value}{xs:List Value}(h:w.ownsRow S e size v n xs)(ho:Onl b w w')(hb:b<S):w'.ownsRow S e size v n xs:=by
 refine⟨h.1,?_⟩
 rcases h.2 with h2|⟨g,cap,cur,rfl,h3,hg,rest⟩
 ·exact .inl h2
 ·refine .inr ⟨g,cap,cur,rfl,h3,?_,rest⟩
  rw[ho.block g (Array.getElem?_eq_some_iff.1 hg).1 (by omega)];exact hg
theorem Own2.low {w w':World}{b S:Nat}{M:Int}{v:Value}(h:Own2 w b M v)(hb:b<S)(hB:Below S w w'):Own2 w' b M v:=
 ⟨⟨(hB.cell (p:=xQ b 0) hb).trans h.1.1,(hB.cell (p:=xQ b 1) hb).trans h.1.2⟩,fun j=>(hB.frozen (p:=⟨b,j,none⟩) hb).trans (h.2 j)⟩
theorem Rd.low {w w':World}{b S:Nat}{x y:Int}(h:Rd w b x y)(hb:b<S)(hB:Below S w w'):Rd w' b x y:=
 ⟨(hB.cell (p:=xQ b 0) hb).trans h.1,(hB.cell (p:=xQ b 1) hb).trans h.2.1,fun j=>(hB.frozen (p:=⟨b,j,none⟩) hb).trans (h.2.2 j)⟩
theorem Own2.allocs {w:World}{b:Nat}{M:Int}{v:Value}(h:Own2 w b M v):∀O,(w.alloc O).cell? (xQ b 1)=some v:=fun O=>(h.below (xr.alloc xl O)).1.2
theorem zhn (N1:Int)(ys:List Ob)(s4 e4:Int)(a3:Option Addr)(c3:Nat)(q:Bool)(hq:q=true↔BtOk N1 ys):∃(M9:Int) (a9:Option Addr) (l9 c9:Nat) (t9 e9:Int),
  bdV e4 q N1 a3 ys.length c3 s4=.tuple #[.agg #[xI M9,.slice a9 l9 c9],xI t9,xI e9]∧M9=(zbN N1 (ys,(s4,e4))).M∧t9=(zbN N1 (ys,(s4,e4))).to∧e9=(zbN N1 (ys,(s4,e4))).e∧∀(W:World) (B:Nat),W.ownsRow B 63 12 (.slice a3 ys.length c3) ys.length (flat ys)→W.ownsRow B 63 12 (.slice a9 l9 c9) (zbN N1 (ys,(s4,e4))).ys.length (flat (zbN N1 (ys,(s4,e4))).ys):=by
 unfold bdV zbN
 by_cases h0:e4=0
 ·subst h0
  by_cases hb:BtOk N1 ys
  ·obtain rfl:q=true:=hq.2 hb
   rw[show zai 0 true=0 from rfl,if_pos rfl,if_pos rfl,if_pos hb]
   exact⟨_,_,_,_,_,_,rfl,rfl,rfl,rfl,fun W B h=>h⟩
  ·obtain rfl:q=false:=by cases q with
    | false=>rfl
    | true=>exact absurd (hq.1 rfl) hb
   rw[show zai 0 false=4 from rfl,if_neg (by decide),if_pos rfl,if_neg hb]
   exact⟨_,_,_,_,_,_,rfl,rfl,rfl,rfl,fun W B h=>World.ownsRow_nil _ _ _ _⟩
 ·rw[show zai e4 q=e4 by simp[zai,h0],if_neg h0,if_neg h0]
  exact⟨_,_,_,_,_,_,rfl,rfl,rfl,rfl,fun W B h=>World.ownsRow_nil _ _ _ _⟩
theorem zie (v:Value)(k:Int)(xs:List Int)(w:World)(hv:Bs w v xs):Calls Tryz.prog 93 #[v,xI k] w fun e w'=>∃r,e=.returned (.tuple #[.agg #[xI (zaz xs k).M,r],xI (zaz xs k).to,xI (zaz xs k).e])∧w'.ownsRow w.heap.size 63 12 r (zaz xs k).ys.length (flat (zaz xs k).ys)∧Below w.heap.size w w':=by
 obtain⟨a,l,c,rfl⟩:=zal hv
 obtain⟨N1,s1,e1,h1⟩:∃x y z,numS xs 2 (k,0)=(x,y,z):=⟨_,_,_,rfl⟩
 obtain⟨cn,s2,e2,h2⟩:∃x y z,numS xs 1 (s1,e1)=(x,y,z):=⟨_,_,_,rfl⟩
 have hcn:0≤cn∧cn≤255:=by have:=zem hv.1 (s1,e1);rw[h2]at this;exact this
 obtain⟨C,rfl⟩:∃C:Nat,cn=C:=⟨cn.toNat,by omega⟩
 have he:zaz xs k=zbN N1 (zax xs C (s2,zai e2 (zcD C))):=by
  unfold zaz
  simp only[h1,h2,Int.toNat_natCast]
 rw[he]
 clear he
 have HV:=xh hv
 have c1:∀V,Rd V (w.heap.size+1) k 0→Bs V (.slice a l c) xs→Calls Tryz.prog 31 #[xP (w.heap.size+1),.slice a l c,xI 2] V fun e w'=>e=.returned (xI N1)∧Rd w' (w.heap.size+1) s1 e1∧Onl (w.heap.size+1) V w':=fun V h hv=>by
  have h:=zad (w.heap.size+1) (.slice a l c) xs 2 k 0 V h hv
  rw[h1]at h
  exact h
 have c2:∀V,Rd V (w.heap.size+1) s1 e1→Bs V (.slice a l c) xs→Calls Tryz.prog 31 #[xP (w.heap.size+1),.slice a l c,xI 1] V fun e w'=>e=.returned (xI C)∧Rd w' (w.heap.size+1) s2 e2∧Onl (w.heap.size+1) V w':=fun V h hv=>by
  have h:=zad (w.heap.size+1) (.slice a l c) xs 1 s1 e1 V h hv
  rw[h2]at h
  exact h
 have c3:=fun V=>zeB C (zcD C) decide_eq_true_iff V
 obtain⟨e3,he3⟩:∃e3,zai e2 (zcD C)=e3:=⟨_,rfl⟩
 have c4:=fun V h=>zay (w.heap.size+1) (zcD C) s2 e2 V h
 rw[he3]at c4 ⊢
 generalize zcD C=Q at*
 obtain⟨st,hst⟩:∃st,(s2,e3)=st:=⟨_,rfl⟩
 rw[hst]
 have HST:=xh hst
 clear hv h1 h2 he3 hst
 go_enter Tryz.func93,Tryz.ntmps93
 go_wp2_with fail
 refine(za6 _ _).mono ?_
 rintro e _ ⟨rfl,rfl⟩
 go_wp2_with fail
 have OR:=xh ((za2 w 0 xS 45 w.heap.size rfl).below (xr.alloc xl (.cells #[xI k,xI 0] 89)))
 have R:=xh (zaO (w.alloc (.cells #[xI 0,xS] 45)) k (w.heap.size+1) (by simp))
 have HB:Hid (Below w.heap.size w ((w.alloc (.cells #[xI 0,xS] 45)).alloc (.cells #[xI k,xI 0] 89))):=(xr.alloc xl _).alloc (by simp) _
 generalize ((w.alloc (.cells #[xI 0,xS] 45)).alloc (.cells #[xI k,xI 0] 89))=V0 at*
 refine(c1 _ R.out (zaa HV.out HB.out)).mono ?_
 rintro e V1 ⟨rfl,hR,ho⟩
 replace OR:=xh (OR.out.onl ho (by omega));replace HB:=xh (HB.out.trans (ho.below (by omega) HB.out.size));replace R:=xh hR;clear ho hR
 have HG:Hid ((w.heap.size+1)<V1.heap.size):=World.block_lt_of_cell? V1 _ R.out.1
 go_wp2_with fail
 have OX:=xh (za2 V1 N1 xS 45 V1.heap.size rfl)
 have hb:Below V1.heap.size V1 (V1.alloc (.cells #[xI N1,xS] 45)):=(Below.refl _ V1).alloc xl _
 replace OR:=xh (OR.out.below hb);replace HB:=xh (HB.out.trans (hb.mono HB.out.size));replace R:=xh (R.out.below hb);clear hb
 generalize V1.alloc (.cells #[xI N1,xS] 45)=V2 at*
 obtain⟨X,hX⟩:∃X,V1.heap.size=X:=⟨_,rfl⟩
 rw[hX]at HG OX
 simp only[hX]
 clear hX
 refine(c2 _ R.out (zaa HV.out HB.out)).mono ?_
 rintro e V3 ⟨rfl,hR,ho⟩
 replace OR:=xh (OR.out.onl ho (by omega));replace OX:=xh (OX.out.onl ho (by have:=HG.out;omega));replace HB:=xh (HB.out.trans (ho.below (by omega) HB.out.size));replace R:=xh hR;clear ho hR
 go_wp2_with fail
 refine(c3 _).mono ?_
 rintro e _ ⟨rfl,rfl⟩
 go_wp2_with fail
 refine(c4 _ R.out).mono ?_
 rintro e V4 ⟨rfl,hR,ho⟩
 replace OR:=xh (OR.out.onl ho (by omega));replace OX:=xh (OX.out.onl ho (by have:=HG.out;omega));replace HB:=xh (HB.out.trans (ho.below (by omega) HB.out.size));replace R:=xh hR;clear ho hR
 have HX:Hid (X<V4.heap.size):=OX.out.lt
 clear c1 c2 c3 c4
 go_wp2_with fail
 obtain⟨S,hS⟩:∃S,V4.heap.size=S:=⟨_,rfl⟩
 rw[hS]at HX
 have HS:Hid (S≤V4.heap.size):=Nat.le_of_eq hS.symm
 clear hS
 have R0:Hid (Rd V4 (w.heap.size+1) st.1 st.2):=by have h:=HST.out;rw[←h];exact R.out
 clear R HST
 go_loopw [24] (fun i wr=>∃(q:Nat) (u:Value),q≤C∧i=xI q∧Rd wr (w.heap.size+1) (zax xs q st).2.1 (zax xs q st).2.2∧Own2 wr X N1 u∧wr.ownsRow S 63 12 u (zax xs q st).1.length (flat (zax xs q st).1)∧Own2 wr w.heap.size 0 xS∧Below w.heap.size w wr∧S≤wr.heap.size) (fun i _=>C-(intOf i).toNat)
 case atStart=>exact⟨0,_,Nat.zero_le _,rfl,R0.out,OX.out,⟨rfl,.inl ⟨rfl,rfl⟩⟩,OR.out,HB.out,HS.out⟩
 case round=>
  obtain⟨q,u,hq,rfl,hR,hX,hown,hOR,hbel,hSS⟩:=hrel
  have HL:=xh (zdF xs st q)
  have HSU:Hid (zax xs (q+1) st=((zax xs q st).1++[(zby xs (zax xs q st).2).ob],((zby xs (zax xs q st).2).to,(zby xs (zax xs q st).2).e))):=rfl
  obtain⟨⟨ys,s4,e4⟩,hrd⟩:∃r,zax xs q st=r:=⟨_,rfl⟩
  rw[hrd]at hR hown HL HSU
  simp only at hR hown HL HSU
  obtain⟨a3,c3,rfl⟩:=zd9 hown
  have R:=xh hR
  have OX:=xh hX
  have OW:=xh hown
  have OR:=xh hOR
  have HB:=xh hbel
  have HS:=xh hSS
  have HRD:=xh hrd
  clear hR hX hown hOR hbel hSS hrd
  have hg1:(w.heap.size+1)<X:=HG.out
  have hg2:X<S:=HX.out
  have hyl:ys.length≤255:=by have:=HL.out;omega
  by_cases hlt:q<C
  ·obtain⟨y,s5,e5,hO⟩:∃(y:Ob) (s5 e5:Int),zby xs (s4,e4)=⟨y.k,y.x,y.n,y.t,y.o,y.r,y.d,y.i,y.p,y.q,y.s,y.m,s5,e5⟩:=⟨(zby xs (s4,e4)).ob,(zby xs (s4,e4)).to,(zby xs (s4,e4)).e,rfl⟩
   have cN:Calls Tryz.prog 113 #[xP (w.heap.size+1),.slice a l c,.func (Fn.func 114) #[] #[]] wr.drew fun e w'=>∃v,e=.returned v∧(v=.agg (xO y.k y.x y.n y.t y.o y.r y.d y.i y.p y.q y.s y.m)∧Rd w' (w.heap.size+1) s5 e5∧Onl (w.heap.size+1) wr.drew w'):=
    (zjj (w.heap.size+1) (.slice a l c) xs s4 e4 y.k y.x y.n y.t y.o y.r y.d y.i y.p y.q y.s y.m s5 e5 wr.drew R.out (zaa HV.out HB.out.drew) hO).mono fun e w' ⟨h1,h2,h3⟩=>⟨_,h1,rfl,h2,h3⟩
   have HN:Hid (zax xs (q+1) st=(ys++[y],(s5,e5))):=by rw[HSU.out,hO];rfl
   clear hO HSU
   have x1:=OX.out.1.2
   go_wp2_with fail
   go_region_law (first
    | (refine zcN (by rfl) 113 _ (fun v w'=>v=.agg (xO y.k y.x y.n y.t y.o y.r y.d y.i y.p y.q y.s y.m)∧Rd w' (w.heap.size+1) s5 e5∧Onl (w.heap.size+1) wr.drew w') (zcV (by rfl) (by rfl) (by rfl) (by rfl) (by rfl) (zpy _ _)) cN ?_;rintro v w1 ⟨rfl,hR,ho⟩;clear cN;have OX1:=xh ((show Own2 wr.drew X N1 _ from OX.out).onl ho (by omega));have OR1:=xh ((show Own2 wr.drew w.heap.size 0 _ from OR.out).onl ho (by omega));have OW1:=xh (zaY OW.out.drew ho (by omega));have HB1:=xh (HB.out.drew.trans (ho.below (by omega) HB.out.drew.size));have HS1:Hid (S≤w1.heap.size):=Nat.le_trans HS.out ho.size;have R1:=xh hR;clear hR ho;have d1:=OX1.out.1.2;have d2:=OX1.out.allocs)
    | (refine zjm (by rfl) (.tmp 27) (.tmp 31) (by rfl) w1 y rfl S _ ys (by rfl) (by rfl) OW1.out (by omega) HS1.out ?_;intro g cap w2 hown hb;have OX2:=xh (OX1.out.low hg2 hb);have OR2:=xh (OR1.out.low (S:=S) (by omega) hb);have R2:=xh (R1.out.low (S:=S) (by omega) hb);have OW2:=xh hown;have HB2:=xh (HB1.out.trans (hb.mono (by omega)));have HS2:Hid (S≤w2.heap.size):=Nat.le_trans HS1.out hb.size;clear hown hb;have f1:=OX2.out.1.2;have f2:=OX2.out.2))
   all_goals
    go_wp2_with fail
    have ho:Onl X w2 (w2.setCell (xQ X 1) (.slice (some (xQ g 0)) (ys.length+1) cap)):=(Onl.refl X w2).set 1 _
    have OX3:=xh (OX2.out.set1 (.slice (some (xQ g 0)) (ys.length+1) cap))
    have OR3:=xh (OR2.out.onl ho (by omega))
    have R3:=xh (R2.out.onl ho (by omega))
    have OW3:=xh (zaY OW2.out ho hg2)
    have HB3:=xh (HB2.out.trans (ho.below (by omega) HB2.out.size))
    have HS3:Hid (S≤(w2.setCell (xQ X 1) (.slice (some (xQ g 0)) (ys.length+1) cap)).heap.size):=Nat.le_trans HS2.out ho.size
    clear ho
    go_roundw
    case rel=>exact⟨q+1,_,by omega,by go_num,by rw[HN.out];exact R3.out,OX3.out,by rw[HN.out];exact OW3.out,OR3.out,HB3.out,HS3.out⟩
    case measure=>simp[intOf];omega
  ·obtain rfl:q=C:=by omega
   clear HSU
   go_wp2_with fail
   replace OX:Hid (Own2 wr.drew X N1 (.slice a3 ys.length c3)):=OX.out
   replace OR:Hid (Own2 wr.drew w.heap.size 0 xS):=OR.out
   replace R:Hid (Rd wr.drew (w.heap.size+1) s4 e4):=R.out
   replace OW:Hid (wr.drew.ownsRow S 63 12 (.slice a3 ys.length c3) ys.length (flat ys)):=OW.out
   replace HB:Hid (Below w.heap.size w wr.drew):=HB.out.drew
   obtain⟨x0,x1⟩:=(show Own2 wr X N1 (.slice a3 ys.length c3)from OX.out).1
   by_cases hbt:BtOk N1 ys
   ·skip
    have cC:∀W,Os W (.slice a3 ys.length c3) ys→Calls Tryz.prog 102 #[.agg #[xI N1,.slice a3 ys.length c3]] W fun e w'=>e=.returned (xI 0)∧Below W.heap.size W w':=fun W h=>by
     have h:=zcP N1 _ ys W h (by omega)
     rwa [btc,if_pos hbt]at h
    obtain⟨M9,a9,l9,c9,t9,e9,hD,hM,ht,he,hOs⟩:=zhn N1 ys s4 e4 a3 c3 true (by simp[hbt])
    have cD:∀W,Rd W (w.heap.size+1) s4 e4→Calls Tryz.prog 115 #[xP (w.heap.size+1),.agg #[xI N1,.slice a3 ys.length c3],.bool true] W fun e w'=>e=.returned (.tuple #[.agg #[xI M9,.slice a9 l9 c9],xI t9,xI e9])∧Onl (w.heap.size+1) W w':=fun W h=>by
     have h:=zfZ (w.heap.size+1) N1 a3 ys.length c3 true s4 e4 W h
     rwa [hD]at h
    have HM:=xh hM
    have HT:=xh ht
    have HE:=xh he
    have HO:=xh hOs
    clear hbt hD hM ht he hOs
    go_region_with (first
     | (go_at_call 102;refine(cC _ (zcA OW.out).1).mono ?_;rintro e V88 ⟨rfl,hb⟩;replace OX:=xh (OX.out.below hb);replace OR:=xh (OR.out.below hb);replace OW:=xh (zaM OW.out hb);replace HB:=xh (HB.out.trans (hb.mono HB.out.size));replace R:=xh (R.out.below hb);clear hb;clear x0 x1;obtain⟨x0,x1⟩:=OX.out.1)
     | (go_at_call 115;refine(cD _ R.out).mono ?_;rintro e V99 ⟨rfl,ho⟩;replace OR:=xh (OR.out.onl ho (by omega));replace OW:=xh (zaY OW.out ho (by omega));replace HB:=xh (HB.out.trans (ho.below (by omega) HB.out.size));clear ho;clear x0 x1;obtain⟨⟨u0,u1⟩,uf⟩:=OR.out))
    all_goals
     go_wp2_with fail
     have hs:=(OR.out.set M9 (.slice a9 l9 c9)).1
     have hbs:=zb0 (b:=w.heap.size) HB.out xl M9 (.slice a9 l9 c9)
     have ho9:Onl w.heap.size V99 (xC V99 w.heap.size #[xI M9,.slice a9 l9 c9]):=((Onl.refl _ V99).set 0 _).set 1 _
     have hos:=HO.out _ w.heap.size (zbs (zaY OW.out ho9 (by omega)) (by omega))
     generalize (xC V99 w.heap.size #[xI M9,.slice a9 l9 c9]:World)=W5 at*
     obtain⟨s0_,s1_⟩:=hs
     exact bodyPost_ret (v:=.tuple #[.agg #[xI M9,.slice a9 l9 c9],xI t9,xI e9]) (by simp[results,Tryz.results93,go_sem,s0_,s1_]) rfl ⟨.slice a9 l9 c9,by rw[HRD.out,←HM.out,←HT.out,←HE.out],by rw[HRD.out];exact hos,hbs⟩
   ·skip
    have cC:∀W,Os W (.slice a3 ys.length c3) ys→Calls Tryz.prog 102 #[.agg #[xI N1,.slice a3 ys.length c3]] W fun e w'=>e=.returned (xI 1)∧Below W.heap.size W w':=fun W h=>by
     have h:=zcP N1 _ ys W h (by omega)
     rwa [btc,if_neg hbt]at h
    obtain⟨M9,a9,l9,c9,t9,e9,hD,hM,ht,he,hOs⟩:=zhn N1 ys s4 e4 a3 c3 false (by simp[hbt])
    have cD:∀W,Rd W (w.heap.size+1) s4 e4→Calls Tryz.prog 115 #[xP (w.heap.size+1),.agg #[xI N1,.slice a3 ys.length c3],.bool false] W fun e w'=>e=.returned (.tuple #[.agg #[xI M9,.slice a9 l9 c9],xI t9,xI e9])∧Onl (w.heap.size+1) W w':=fun W h=>by
     have h:=zfZ (w.heap.size+1) N1 a3 ys.length c3 false s4 e4 W h
     rwa [hD]at h
    have HM:=xh hM
    have HT:=xh ht
    have HE:=xh he
    have HO:=xh hOs
    clear hbt hD hM ht he hOs
    go_region_with (first
     | (go_at_call 102;refine(cC _ (zcA OW.out).1).mono ?_;rintro e V88 ⟨rfl,hb⟩;replace OX:=xh (OX.out.below hb);replace OR:=xh (OR.out.below hb);replace OW:=xh (zaM OW.out hb);replace HB:=xh (HB.out.trans (hb.mono HB.out.size));replace R:=xh (R.out.below hb);clear hb;clear x0 x1;obtain⟨x0,x1⟩:=OX.out.1)
     | (go_at_call 115;refine(cD _ R.out).mono ?_;rintro e V99 ⟨rfl,ho⟩;replace OR:=xh (OR.out.onl ho (by omega));replace OW:=xh (zaY OW.out ho (by omega));replace HB:=xh (HB.out.trans (ho.below (by omega) HB.out.size));clear ho;clear x0 x1;obtain⟨⟨u0,u1⟩,uf⟩:=OR.out))
    all_goals
     go_wp2_with fail
     have hs:=(OR.out.set M9 (.slice a9 l9 c9)).1
     have hbs:=zb0 (b:=w.heap.size) HB.out xl M9 (.slice a9 l9 c9)
     have ho9:Onl w.heap.size V99 (xC V99 w.heap.size #[xI M9,.slice a9 l9 c9]):=((Onl.refl _ V99).set 0 _).set 1 _
     have hos:=HO.out _ w.heap.size (zbs (zaY OW.out ho9 (by omega)) (by omega))
     generalize (xC V99 w.heap.size #[xI M9,.slice a9 l9 c9]:World)=W5 at*
     obtain⟨s0_,s1_⟩:=hs
     exact bodyPost_ret (v:=.tuple #[.agg #[xI M9,.slice a9 l9 c9],xI t9,xI e9]) (by simp[results,Tryz.results93,go_sem,s0_,s1_]) rfl ⟨.slice a9 l9 c9,by rw[HRD.out,←HM.out,←HT.out,←HE.out],by rw[HRD.out];exact hos,hbs⟩
end
end Go.Proofs.YtjghebcnmoojmaaGreat
