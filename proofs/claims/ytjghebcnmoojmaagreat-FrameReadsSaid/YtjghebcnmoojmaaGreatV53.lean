/- A frame out of bytes: -/
import Derived.Test.YtjghebcnmoojmaaGreatV42
import Derived.Test.YtjghebcnmoojmaaGreatV52
set_option maxRecDepth 100000
set_option maxHeartbeats 32000000
namespace Go.Proofs.YtjghebcnmoojmaaGreat
open Go.RowKit MX MR
theorem zdr {xs:List Int}{m k n:Nat}(h:k+n≤m):segN (xs.take m) k n=segN xs k n:=by
 unfold segN
 rw[List.drop_take,List.take_take,Nat.min_eq_left (by omega)]
def GoodP (fs:List Pt):Prop:=∀i,i<fs.length→(fs.getD i zPt).Ok∨fs.getD i zPt=zPt
theorem GoodP.few {fs:List Pt}(h:GoodP fs):∀i,i<fs.length→zaR (fs.getD i zPt):=fun i hi=>by
 rcases h i hi with h|h
 ·exact zeh h
 ·rw[h];exact znR
def StL (ys:List Int)(q:Nat)(fs:List Pt)(pos e:Int):Prop:=(e=0→∃t:Nat,pos=t∧15≤t∧t≤ys.length∧rdN q (ys.drop 15)=some (fs,ys.drop t))∧(e≠0→rdN q (ys.drop 15)=none)
theorem zo2 {r r':List Int}{p:Pt}(hx:∀x∈r,0≤x∧x<256)(h:rd1 r=some (p,r')):p.Ok:=by
 unfold rd1 at h
 split at h
 ·cases h
 split at h
 ·cases h
 cases hp:zaE (r.getD 0 0) ((r.drop 3).take (szR r))with
 | none=>rw[hp]at h;cases h
 | some p'=>
  rw[hp]at h
  simp only[Option.map_some,Option.some.injEq,Prod.mk.injEq]at h
  obtain⟨rfl,_⟩:=h
  exact(zdW (fun x hx'=>hx x (List.mem_of_mem_drop (List.mem_of_mem_take hx'))) hp).1
theorem zla {ys:List Int}{q:Nat}{fs:List Pt}{pos e T K:Int}(hx:∀x∈ys,0≤x∧x<256)(h:StL ys q fs pos e)(hg:GoodP fs)(hs:StOk (if e=0 then zdN ys pos else none) T K):
  StL ys (q+1) (fs++[pOf (if e=0 then zdN ys pos else none)]) T K∧GoodP (fs++[pOf (if e=0 then zdN ys pos else none)]):=by
 have good:∀p:Pt,p.Ok∨p=zPt→GoodP (fs++[p]):=fun p hp i hi=>by
  by_cases h:i<fs.length
  ·rw[show(fs++[p]).getD i zPt=fs.getD i zPt by simp[List.getD,List.getElem?_append,h]];exact hg i h
  ·have:i=fs.length:=by simp at hi;omega
   subst this
   rw[show(fs++[p]).getD fs.length zPt=p by simp[List.getD]];exact hp
 by_cases he:e=0
 ·rw[if_pos he]at hs ⊢
  obtain⟨t,rfl,h15,ht,hr⟩:=h.1 he
  rcases zgK hx ht with ⟨h1,h2⟩|⟨p,t',h1,h2,h3,h4⟩
  ·rw[h1]at hs ⊢
   exact⟨⟨fun h0=>absurd h0 hs,fun _=>zlP hr h2⟩,good _ (.inr rfl)⟩
  ·rw[h1]at hs ⊢
   obtain⟨rfl,rfl⟩:=hs
   exact⟨⟨fun _=>⟨t',rfl,by omega,h3,zhD hr h4⟩,fun h0=>absurd rfl h0⟩,good _ (.inl (zo2 (fun x hx'=>hx x (List.mem_of_mem_drop hx')) h4))⟩
 ·rw[if_neg he]at hs ⊢
  exact⟨⟨fun h0=>absurd h0 hs,fun _=>zlH (h.2 he)⟩,good _ (.inr rfl)⟩
theorem zpj (args:Array Value)(w:World):(callFunc 32 args).run Tryz.prog w=.ok (.enter 32 args) w:=by simp[go_sem]
theorem zeW (v:Value)(xs:List Int)(w:World)(hv:Bs w v xs):Calls Tryz.prog 18 #[v] w (zoR w xs):=by
 have HX:=xh hv.1
 obtain⟨a,l,c,rfl⟩:=zal hv
 obtain⟨rfl,-⟩:=za0 hv
 have OR:Hid (OwnF (w.alloc (.cells xF 24)) w.heap.size 0 0 0 0 xS):=zav w 0 0 0 0 xS 24 w.heap.size rfl
 have HB:Hid (Below w.heap.size w (w.alloc (.cells xF 24))):=xr.alloc xl _
 have HV:=xh (zaa hv HB.out)
 clear hv
 obtain⟨V0,hV0⟩:∃V0,w.alloc (.cells xF 24)=V0:=⟨_,rfl⟩
 rw[hV0]at OR HB HV
 have HV0:=xh hV0
 clear hV0
 go_enter Tryz.func18,Tryz.ntmps18
 go_upto_region 1 with (fail)
 rw[HV0.out]
 clear HV0
 go_wp2_with fail
 refine(znt (.slice a xs.length c) xs V0 HV.out).mono ?_
 rintro e V1 ⟨rfl,hb⟩
 replace OR:=xh (OR.out.below hb)
 replace HB:=xh (HB.out.trans (hb.mono HB.out.size))
 replace HV:=xh (zaa HV.out hb)
 clear hb
 by_cases hk:ckE xs=0
 rotate_left
 ·have HPF:=xh (zpT hk)
  generalize ckE xs=K at*
  have hK':(K !=0)=true:=by simpa using hk
  clear hk
  obtain⟨⟨u0,u1,u2,u3,u4⟩,uf⟩:=OR.out
  go_wp2_with fail
  have hs:=(OR.out.set 0 0 0 0 xS).1
  have hbs:=zaJ (b:=w.heap.size) HB.out xl 0 0 0 0 xS
  generalize (xC V1 w.heap.size xF:World)=W5 at*
  obtain⟨s0_,s1_,s2_,s3_,s4_⟩:=hs
  exact bodyPost_ret (v:=.tuple #[.agg xF,xI K]) (by simp[results,Tryz.results18,go_sem,s0_,s1_,s2_,s3_,s4_]) rfl ⟨⟨_,_,rfl,.inl ⟨HPF.out,_,_,rfl,zaW _ _⟩⟩,hbs⟩
 have HCK:=xh hk
 rw[hk]
 have H17:Hid (17≤xs.length):=(zn5 hk).1
 clear hk
 obtain⟨bb,bo,ha⟩:∃bb bo,a=some ⟨bb,bo,none⟩:=by
  rcases HV.out.2.2 with ⟨a9,c9,e,_,e2⟩|⟨b9,o9,c9,e,_⟩
  ·have h0:=H17.out;rw[e2]at h0;simp at h0
  ·simp only[Value.slice.injEq]at e;exact⟨b9,o9,e.1⟩
 subst ha
 have HCC:Hid (xs.length≤c):=by
  rcases HV.out.2.2 with ⟨a9,c9,e,_,e2⟩|⟨b9,o9,c9,e,e4,e3⟩
  ·have h0:=H17.out;rw[e2]at h0;simp at h0
  ·simp only[Value.slice.injEq]at e;rw[e.2.2];exact e4
 obtain⟨m,hm⟩:∃m,xs.length=m+2:=⟨xs.length-2,by have:=H17.out;omega⟩
 have HM:Hid (xs.length=m+2∧15≤m):=⟨hm,by have:=H17.out;omega⟩
 have hI:Bs V1 (.slice (some ⟨bb,bo,none⟩) m c) (xs.take m):=by simpa using zcC HV.out 0 m (by omega) c (by have:=HCC.out;omega)
 obtain⟨ys,hys⟩:∃ys,xs.take m=ys:=⟨_,rfl⟩
 have HYL:Hid (ys.length=m):=by show _=_;rw[←hys,List.length_take];omega
 have HR15:Hid (ys.drop 15=frR xs):=by show _=_;rw[←zo6,←hys,show xs.length-2=m by omega]
 have HYX:Hid (∀x∈ys,0≤x∧x<256):=by show ∀x∈ys,_;rw[←hys];exact fun x hx=>HX.out x (List.mem_of_mem_take hx)
 have g2:segN ys 2 1=xs.getD 2 0:=by rw[←hys,zdr (by have:=HM.out;omega),zex xs 2 (by have:=H17.out;omega)]
 have g3:segN ys 3 1=xs.getD 3 0:=by rw[←hys,zdr (by have:=HM.out;omega),zex xs 3 (by have:=H17.out;omega)]
 have g4:segN ys 4 4=segN xs 4 4:=by rw[←hys,zdr (by have:=HM.out;omega)]
 have g8:segN ys 8 4=segN xs 8 4:=by rw[←hys,zdr (by have:=HM.out;omega)]
 have g14:segN ys 14 1=xs.getD 14 0:=by rw[←hys,zdr (by have:=HM.out;omega),zex xs 14 (by have:=H17.out;omega)]
 rw[hys]at hI
 have HI:=xh hI
 have hcb:=zdl HX.out 14
 obtain⟨C,hC⟩:∃C:Nat,xs.getD 14 0=C:=⟨(xs.getD 14 0).toNat,by omega⟩
 rw[hC]at g14 hcb
 have HC0:=xh hC
 obtain⟨f1,hf1⟩:∃y,xs.getD 2 0=y:=⟨_,rfl⟩
 obtain⟨f2,hf2⟩:∃y,segN xs 4 4=y:=⟨_,rfl⟩
 obtain⟨f3,hf3⟩:∃y,xs.getD 3 0=y:=⟨_,rfl⟩
 obtain⟨f4,hf4⟩:∃y,segN xs 8 4=y:=⟨_,rfl⟩
 rw[hf1]at g2
 rw[hf2]at g4
 rw[hf3]at g3
 rw[hf4]at g8
 have HOKF:Hid (∀ps,rdN C (ys.drop 15)=some (ps,[])→FrOk f1 f2 f3 f4 ps→frPF xs=.inr ⟨f1,f2,f3,f4,ps⟩):=fun ps h1 h2=>by
  rw[HR15.out]at h1
  have:=zkp HCK.out HC0.out h1 (by rw[hf1,hf2,hf3,hf4];exact h2)
  rwa [hf1,hf2,hf3,hf4]at this
 have HNOF:Hid ((∀ps,rdN C (ys.drop 15)=some (ps,[])→¬FrOk f1 f2 f3 f4 ps)→frPF xs=.inl 4):=fun h=>zjz HCK.out HC0.out (fun ps h1=>by
  rw[hf1,hf2,hf3,hf4];exact h ps (by rw[HR15.out];exact h1))
 have HCB:Hid (C≤255):=by show _≤_;omega
 have HG2:=xh g2
 have HG3:=xh g3
 have HG4:=xh g4
 have HG8:=xh g8
 have HG14:=xh g14
 have hw1:IntKind.i64.wrap ((xs.length:Int)-2)=(m:Int):=by have:=HV.out.2.1;rw[IntKind.wrap_i64];omega
 have hs1:(0:Int)≤(m:Int):=by omega
 have hs2:(m:Int)≤(c:Int):=by have:=HCC.out;omega
 have hs3:((m:Int)).toNat=m:=Int.toNat_natCast m
 clear hI hcb hC hf1 hf2 hf3 hf4 hys hm g2 g3 g4 g8 g14
 have cN:∀(V:World) (p n:Nat),1≤n→n≤7→p+n≤m→Rd V V1.heap.size p 0→Bs V (.slice (some ⟨bb,bo,none⟩) m c) ys→Calls Tryz.prog 31 #[xP V1.heap.size,.slice (some ⟨bb,bo,none⟩) m c,xI n] V fun e w'=>e=.returned (xI (segN ys p n))∧Rd w' V1.heap.size ((p+n:Nat):Int) 0∧Onl V1.heap.size V w':=fun V p n h1 h7 hp hR hB=>by
  have h:=zad V1.heap.size _ ys n p 0 V hR hB
  rw[zgA ys n p h1 h7 (by rw[HYL.out];exact hp)]at h
  simpa using h
 go_wp2_with fail
 refine(za6 _ _).mono ?_
 rintro e _ ⟨rfl,rfl⟩
 go_wp2_with fail
 have R:=xh (zaO V1 2 V1.heap.size rfl)
 have HC:=xh ((Below.refl V1.heap.size V1).alloc xl (.cells #[xI 2,xI 0] 89))
 generalize V1.alloc (.cells #[xI 2,xI 0] 89)=V2 at*
 obtain⟨G,hG⟩:∃G,V1.heap.size=G:=⟨_,rfl⟩
 rw[hG]at R HC cN
 try rw[hG]
 have HGE:=xh hG
 clear hG
 have c1:∀V,Rd V G 2 0→Bs V (.slice (some ⟨bb,bo,none⟩) m c) ys→Calls Tryz.prog 31 #[xP G,.slice (some ⟨bb,bo,none⟩) m c,xI 1] V fun e w'=>e=.returned (xI f1)∧Rd w' G 3 0∧Onl G V w':=fun V hR hB=>by
  have h:=cN V 2 1 (by decide) (by decide) (by have:=HM.out;omega) hR hB
  rw[HG2.out]at h
  exact h
 have c2:∀V,Rd V G 3 0→Bs V (.slice (some ⟨bb,bo,none⟩) m c) ys→Calls Tryz.prog 31 #[xP G,.slice (some ⟨bb,bo,none⟩) m c,xI 1] V fun e w'=>e=.returned (xI f3)∧Rd w' G 4 0∧Onl G V w':=fun V hR hB=>by
  have h:=cN V 3 1 (by decide) (by decide) (by have:=HM.out;omega) hR hB
  rw[HG3.out]at h
  exact h
 have c3:∀V,Rd V G 4 0→Bs V (.slice (some ⟨bb,bo,none⟩) m c) ys→Calls Tryz.prog 31 #[xP G,.slice (some ⟨bb,bo,none⟩) m c,xI 4] V fun e w'=>e=.returned (xI f2)∧Rd w' G 8 0∧Onl G V w':=fun V hR hB=>by
  have h:=cN V 4 4 (by decide) (by decide) (by have:=HM.out;omega) hR hB
  rw[HG4.out]at h
  exact h
 have c4:∀V,Rd V G 8 0→Bs V (.slice (some ⟨bb,bo,none⟩) m c) ys→Calls Tryz.prog 31 #[xP G,.slice (some ⟨bb,bo,none⟩) m c,xI 4] V fun e w'=>e=.returned (xI f4)∧Rd w' G 12 0∧Onl G V w':=fun V hR hB=>by
  have h:=cN V 8 4 (by decide) (by decide) (by have:=HM.out;omega) hR hB
  rw[HG8.out]at h
  exact h
 have c5:∀V,Rd V G 12 0→Bs V (.slice (some ⟨bb,bo,none⟩) m c) ys→Calls Tryz.prog 31 #[xP G,.slice (some ⟨bb,bo,none⟩) m c,xI 2] V fun e w'=>e=.returned (xI (segN ys 12 2))∧Rd w' G 14 0∧Onl G V w':=fun V hR hB=>by
  have h:=cN V 12 2 (by decide) (by decide) (by have:=HM.out;omega) hR hB
  skip
  exact h
 have c6:∀V,Rd V G 14 0→Bs V (.slice (some ⟨bb,bo,none⟩) m c) ys→Calls Tryz.prog 31 #[xP G,.slice (some ⟨bb,bo,none⟩) m c,xI 1] V fun e w'=>e=.returned (xI C)∧Rd w' G 15 0∧Onl G V w':=fun V hR hB=>by
  have h:=cN V 14 1 (by decide) (by decide) (by have:=HM.out;omega) hR hB
  rw[HG14.out]at h
  exact h
 have HIV:Hid (∀V,Below G V1 V→Bs V (.slice (some ⟨bb,bo,none⟩) m c) ys):=fun V h=>zaa HI.out (by rw[HGE.out];exact h)
 clear HI
 clear cN HG2 HG3 HG4 HG8 HG14
 refine(c1 _ R.out (HIV.out _ HC.out)).mono ?_
 rintro e V3 ⟨rfl,hR,ho⟩
 replace HC:=xh (HC.out.trans (ho.below xl (by rw[←HGE.out];exact HC.out.size)));replace R:=xh hR;clear ho hR c1
 go_wp2_with fail
 refine(c2 _ R.out (HIV.out _ HC.out)).mono ?_
 rintro e V4 ⟨rfl,hR,ho⟩
 replace HC:=xh (HC.out.trans (ho.below xl (by rw[←HGE.out];exact HC.out.size)));replace R:=xh hR;clear ho hR c2
 go_wp2_with fail
 refine(c3 _ R.out (HIV.out _ HC.out)).mono ?_
 rintro e V5 ⟨rfl,hR,ho⟩
 replace HC:=xh (HC.out.trans (ho.below xl (by rw[←HGE.out];exact HC.out.size)));replace R:=xh hR;clear ho hR c3
 go_wp2_with fail
 refine(c4 _ R.out (HIV.out _ HC.out)).mono ?_
 rintro e V6 ⟨rfl,hR,ho⟩
 replace HC:=xh (HC.out.trans (ho.below xl (by rw[←HGE.out];exact HC.out.size)));replace R:=xh hR;clear ho hR c4
 go_wp2_with fail
 have HGV:Hid (G<V6.heap.size):=World.block_lt_of_cell? V6 _ R.out.1
 have hb:Below V6.heap.size V6 (V6.alloc (.cells (xA f1 f2 f3 f4 xS) 24)):=(Below.refl _ V6).alloc xl _
 have OX:=xh (zav V6 f1 f2 f3 f4 xS 24 V6.heap.size rfl)
 replace HC:=xh (HC.out.trans (hb.mono (by rw[←HGE.out];exact HC.out.size)));replace R:=xh (R.out.below hb);clear hb
 generalize V6.alloc (.cells (xA f1 f2 f3 f4 xS) 24)=V7 at*
 obtain⟨X,hX⟩:∃X,V6.heap.size=X:=⟨_,rfl⟩
 rw[hX]at HGV OX
 try rw[hX]
 have HGX:Hid (G<X):=HGV.out
 clear HGV
 try simp only[hX]
 clear hX
 refine(c5 _ R.out (HIV.out _ HC.out)).mono ?_
 rintro e V8 ⟨rfl,hR,ho⟩
 replace OX:=xh (OX.out.onl ho (by have:=HGX.out;omega))
 replace HC:=xh (HC.out.trans (ho.below xl (by rw[←HGE.out];exact HC.out.size)));replace R:=xh hR;clear ho hR c5
 go_wp2_with fail
 refine(c6 _ R.out (HIV.out _ HC.out)).mono ?_
 rintro e V9 ⟨rfl,hR,ho⟩
 replace OX:=xh (OX.out.onl ho (by have:=HGX.out;omega))
 replace HC:=xh (HC.out.trans (ho.below xl (by rw[←HGE.out];exact HC.out.size)));replace R:=xh hR;clear ho hR c6
 go_wp2_with fail
 obtain⟨S,hS⟩:∃S,V9.heap.size=S:=⟨_,rfl⟩
 have HXS:Hid (X<S):=by rw[←hS];exact OX.out.lt
 have HSS:Hid (S≤V9.heap.size):=Nat.le_of_eq hS.symm
 clear hS
 have HORV:Hid (∀V,Below G V1 V→OwnF V w.heap.size 0 0 0 0 xS):=fun V h=>OR.out.below (by rw[HGE.out];exact h)
 have HBV:Hid (∀V,Below G V1 V→Below w.heap.size w V):=fun V h=>HB.out.trans (h.mono (by rw[←HGE.out];exact HB.out.size))
 have HWG:Hid (w.heap.size≤G):=by rw[←HGE.out];exact HB.out.size
 have HGL:Hid (∀V,Below G V1 V→G≤V.heap.size):=fun V h=>by have:=h.size;rw[HGE.out]at this;exact this
 clear OR HB hw1 hs1 hs2 hs3
 go_loopw [41] (fun i wr=>∃(q:Nat) (u:Value) (fs:List Pt) (pos e:Int),q≤C∧i=xI q∧fs.length=q∧Rd wr G pos e∧OwnF wr X f1 f2 f3 f4 u∧PsOw wr S u fs∧GoodP fs∧StL ys q fs pos e∧Below G V1 wr∧S≤wr.heap.size) (fun i _=>C-(intOf i).toNat)
 case atStart=>exact⟨0,_,[],15,0,Nat.zero_le _,rfl,rfl,R.out,OX.out,zaW _ _,fun i hi=>absurd hi (Nat.not_lt_zero _),⟨fun _=>⟨15,rfl,Nat.le_refl _,by rw[HYL.out];exact HM.out.2,rfl⟩,fun h=>absurd rfl h⟩,HC.out,HSS.out⟩
 case round=>
  obtain⟨q,u,fs,pos,e,hq,rfl,hfl,hR,hX,hown,hgood,hstl,hbel,hSS⟩:=hrel
  clear R OX HC HSS
  have R:=xh hR
  have OX:=xh hX
  have OW:=xh hown
  have HGD:=xh hgood
  have HSL:=xh hstl
  have HC:=xh hbel
  have HS:=xh hSS
  have HFL:=xh hfl
  have HQ:Hid (q≤C):=hq
  have hg1:G<X:=HGX.out
  have hg2:X<S:=HXS.out
  obtain⟨a3,c3,rfl⟩:=hown.form
  clear hR hX hown hgood hstl hbel hSS hfl
  by_cases hlt:q<C
  ·have HLT:=xh hlt
   obtain⟨oz,hoz⟩:∃oz,(if e=0 then zdN ys pos else none)=oz:=⟨_,rfl⟩
   have HSTEP:Hid (∀T K,StOk oz T K→StL ys (q+1) (fs++[pOf oz]) T K∧GoodP (fs++[pOf oz])):=fun T K h=>by
    rw[←hoz]at h ⊢
    exact zla HYX.out HSL.out HGD.out h
   have cX:=zk0 G (.slice (some ⟨bb,bo,none⟩) m c) ys pos e (zdN ys pos) wr.drew R.out (HIV.out _ HC.out.drew) (fun h0 V hb=>zkq (.slice (some ⟨bb,bo,none⟩) m c) ys pos V (zaa (HIV.out _ HC.out.drew) hb))
   rw[hoz]at cX
   clear hoz
   have cN:Calls Tryz.prog 32 #[xP G,.slice (some ⟨bb,bo,none⟩) m c,.func (Fn.func 33) #[] #[]] wr.drew fun e9 w'=>∃v,e9=.returned v∧(∃(r:RPt) (T K:Int),v=.agg (xR r)∧r.Ow w' wr.drew.heap.size (pOf oz)∧StOk oz T K∧Rd w' G T K∧Onl G wr.drew w'):=
    cX.mono fun e9 w' ⟨r,T,K,h1,h2,h3,h4,h5⟩=>⟨_,h1,r,T,K,rfl,h2,h3,h4,h5⟩
   clear cX
   obtain⟨⟨x0,x1,x2,x3,x4⟩,-⟩:=OX.out
   go_wp2_with fail
   go_region_law (first
    | (refine zcN (by rfl) 32 _ (fun v w'=>∃(r:RPt) (T K:Int),v=.agg (xR r)∧r.Ow w' wr.drew.heap.size (pOf oz)∧StOk oz T K∧Rd w' G T K∧Onl G wr.drew w') (zcV (by rfl) (by rfl) (by rfl) (by rfl) (by rfl) (zpj _ _)) cN ?_;rintro v w1 ⟨r,T,K,rfl,how,hst,hR,ho⟩;clear cN;have OX1:=xh ((show OwnF wr.drew X f1 f2 f3 f4 _ from OX.out).onl ho (by omega));have OW1:=xh ((OW.out.below (Below.refl wr.heap.size wr).drew).onl ho (by omega));have HC1:=xh (HC.out.drew.trans (ho.below xl (HGL.out _ HC.out.drew)));have HS1:Hid (S≤w1.heap.size):=Nat.le_trans HS.out ho.size;have R1:=xh hR;have HW1:=xh (how.mono HS.out);have HST:=xh hst;clear hR ho how hst;have d1:=OX1.out.1.2.2.2.2;have d2:∀O,(w1.alloc O).cell? (xQ X 4)=some (.slice a3 fs.length c3):=fun O=>(OX1.out.below (xr.alloc xl O)).1.2.2.2.2)
    | (refine zjB (by rfl) (.tmp 44) (.tmp 48) (by rfl) w1 r (pOf oz) rfl S _ fs HW1.out (by rfl) (by rfl) OW1.out (by have:=HFL.out;have:=HCB.out;omega) HS1.out ?_;intro g cap w2 hown hb;have OX2:=xh (OX1.out.low hg2 hb);have R2:=xh (R1.out.low (S:=S) (by omega) hb);have OW2:=xh hown;have HC2:=xh (HC1.out.trans (hb.mono (by omega)));have HS2:Hid (S≤w2.heap.size):=Nat.le_trans HS1.out hb.size;clear hown hb;have f1_:=OX2.out.1.2.2.2.2;have f2_:=OX2.out.2))
   all_goals
    go_wp2_with fail
    have ho:Onl X w2 (w2.setCell (xQ X 4) (.slice (some (xQ g 0)) (fs.length+1) cap)):=(Onl.refl X w2).set 4 _
    have OX3:=xh (OX2.out.set4 (.slice (some (xQ g 0)) (fs.length+1) cap))
    have R3:=xh (R2.out.onl ho (by omega))
    have OW3:=xh (OW2.out.onl ho hg2)
    have HC3:=xh (HC2.out.trans (ho.below (Nat.le_of_lt hg1) (HGL.out _ HC2.out)))
    have HS3:Hid (S≤(w2.setCell (xQ X 4) (.slice (some (xQ g 0)) (fs.length+1) cap)).heap.size):=Nat.le_trans HS2.out ho.size
    clear ho
    have hcb9:C≤255:=HCB.out
    have hlt9:q<C:=HLT.out
    have hw9:wrap64 ((q:Int)+1)=((q+1:Nat):Int):=by unfold wrap64;omega
    go_roundw
    case rel=>exact⟨q+1,_,fs++[pOf oz],T,K,HLT.out,by rw[hw9],by rw[List.length_append,HFL.out];rfl,R3.out,OX3.out,OW3.out,(HSTEP.out T K HST.out).2,(HSTEP.out T K HST.out).1,HC3.out,HS3.out⟩
    case measure=>
     clear HOKF HNOF
     rw[hw9]
     show C-(((q+1:Nat):Int)).toNat<C-((q:Int)).toNat
     rw[Int.toNat_natCast,Int.toNat_natCast]
     exact Nat.sub_lt_sub_left hlt9 (Nat.lt_succ_self q)
  ·obtain rfl:q=C:=by omega
   go_wp2_with fail
   replace OX:Hid (OwnF wr.drew X f1 f2 f3 f4 (.slice a3 fs.length c3)):=OX.out
   replace OW:=xh (OW.out.below (Below.refl wr.heap.size wr).drew)
   replace R:Hid (Rd wr.drew G pos e):=R.out
   replace HC:=xh HC.out.drew
   obtain⟨⟨x0,x1,x2,x3,x4⟩,-⟩:=(show OwnF wr X f1 f2 f3 f4 (.slice a3 fs.length c3)from OX.out)
   clear HS HQ hlt hq
   by_cases he:e=0
   rotate_left
   ·have HPF:Hid (frPF xs=.inl 4):=HNOF.out (fun ps h=>by rw[HSL.out.2 he]at h;cases h)
    have he9:(e !=0)=true:=by simpa using he
    by_cases hok:FrOk f1 f2 f3 f4 fs
    ·skip
     have cC:∀W,Ps W (.slice a3 fs.length c3) fs→Calls Tryz.prog 13 #[.agg (xA f1 f2 f3 f4 (.slice a3 fs.length c3))] W fun e9 w'=>e9=.returned (xI 0)∧Below W.heap.size W w':=fun W h=>by
      have h:=zb8 f1 f2 f3 f4 a3 c3 fs W h HGD.out.few
      rwa [show frK f1 f2 f3 f4 fs=0 from if_pos hok]at h
     have cD:∀W,Rd W G pos e→Calls Tryz.prog 34 #[xP G,.agg (xA f1 f2 f3 f4 (.slice a3 fs.length c3)),.bool true] W fun e9 w'=>e9=.returned (.tuple #[.agg xF,xI 0,xI e])∧Onl G W w':=fun W h=>zdH G f1 f2 f3 f4 a3 fs.length c3 true pos e e W h (by simp[zai,he]) he
     clear hok
     go_region_with (first
      | (go_at_call 13;refine(cC _ OW.out.ps).mono ?_;rintro e9 V88 ⟨rfl,hb⟩;replace OX:=xh (OX.out.below hb);replace OW:=xh (OW.out.below hb);replace HC:=xh (HC.out.trans (hb.mono (HGL.out _ HC.out)));replace R:=xh (R.out.below hb);clear hb;clear x0 x1 x2 x3 x4;obtain⟨⟨x0,x1,x2,x3,x4⟩,-⟩:=OX.out)
      | (go_at_call 34;refine(cD _ R.out).mono ?_;rintro e9 V99 ⟨rfl,ho⟩;replace OX:=xh (OX.out.onl ho (by omega));replace OW:=xh (OW.out.onl ho (by omega));replace HC:=xh (HC.out.trans (ho.below xl (HGL.out _ HC.out)));clear ho;clear x0 x1 x2 x3 x4;obtain⟨⟨x0,x1,x2,x3,x4⟩,xf⟩:=OX.out))
     all_goals
      go_upto_region 13 with (fail)
      clear x0 x1 x2 x3 x4 xf
      have OX8:=xh (OX.out.set 0 0 0 0 xS)
      have HC8:=xh (zaJ (b:=X) HC.out (Nat.le_of_lt hg1) 0 0 0 0 xS)
      have OW8:=xh (OW.out.onl ((((((Onl.refl X V99).set 0 (xI 0)).set 1 (xI 0)).set 2 (xI 0)).set 3 (xI 0)).set 4 xS) hg2)
      generalize (xC V99 X xF:World)=V8 at*
      have OR8:=xh (HORV.out _ HC8.out)
      have HB8:=xh (HBV.out _ HC8.out)
      obtain⟨⟨u0,u1,u2,u3,u4⟩,uf⟩:=OR8.out
      go_wp2_with fail
      have hs:=(OR8.out.set 0 0 0 0 xS).1
      have hbs:=zaJ (b:=w.heap.size) HB8.out xl 0 0 0 0 xS
      generalize (xC V8 w.heap.size xF:World)=W5 at*
      obtain⟨s0_,s1_,s2_,s3_,s4_⟩:=hs
      exact bodyPost_ret (v:=.tuple #[.agg xF,xI 4]) (by simp[results,Tryz.results18,go_sem,s0_,s1_,s2_,s3_,s4_]) rfl ⟨⟨_,_,rfl,.inl ⟨HPF.out,_,_,rfl,zaW _ _⟩⟩,hbs⟩
    ·skip
     have cC:∀W,Ps W (.slice a3 fs.length c3) fs→Calls Tryz.prog 13 #[.agg (xA f1 f2 f3 f4 (.slice a3 fs.length c3))] W fun e9 w'=>e9=.returned (xI 1)∧Below W.heap.size W w':=fun W h=>by
      have h:=zb8 f1 f2 f3 f4 a3 c3 fs W h HGD.out.few
      rwa [show frK f1 f2 f3 f4 fs=1 from if_neg hok]at h
     have cD:∀W,Rd W G pos e→Calls Tryz.prog 34 #[xP G,.agg (xA f1 f2 f3 f4 (.slice a3 fs.length c3)),.bool false] W fun e9 w'=>e9=.returned (.tuple #[.agg xF,xI 0,xI e])∧Onl G W w':=fun W h=>zdH G f1 f2 f3 f4 a3 fs.length c3 false pos e e W h (by simp[zai,he]) he
     clear hok
     go_region_with (first
      | (go_at_call 13;refine(cC _ OW.out.ps).mono ?_;rintro e9 V88 ⟨rfl,hb⟩;replace OX:=xh (OX.out.below hb);replace OW:=xh (OW.out.below hb);replace HC:=xh (HC.out.trans (hb.mono (HGL.out _ HC.out)));replace R:=xh (R.out.below hb);clear hb;clear x0 x1 x2 x3 x4;obtain⟨⟨x0,x1,x2,x3,x4⟩,-⟩:=OX.out)
      | (go_at_call 34;refine(cD _ R.out).mono ?_;rintro e9 V99 ⟨rfl,ho⟩;replace OX:=xh (OX.out.onl ho (by omega));replace OW:=xh (OW.out.onl ho (by omega));replace HC:=xh (HC.out.trans (ho.below xl (HGL.out _ HC.out)));clear ho;clear x0 x1 x2 x3 x4;obtain⟨⟨x0,x1,x2,x3,x4⟩,xf⟩:=OX.out))
     all_goals
      go_upto_region 13 with (fail)
      clear x0 x1 x2 x3 x4 xf
      have OX8:=xh (OX.out.set 0 0 0 0 xS)
      have HC8:=xh (zaJ (b:=X) HC.out (Nat.le_of_lt hg1) 0 0 0 0 xS)
      have OW8:=xh (OW.out.onl ((((((Onl.refl X V99).set 0 (xI 0)).set 1 (xI 0)).set 2 (xI 0)).set 3 (xI 0)).set 4 xS) hg2)
      generalize (xC V99 X xF:World)=V8 at*
      have OR8:=xh (HORV.out _ HC8.out)
      have HB8:=xh (HBV.out _ HC8.out)
      obtain⟨⟨u0,u1,u2,u3,u4⟩,uf⟩:=OR8.out
      go_wp2_with fail
      have hs:=(OR8.out.set 0 0 0 0 xS).1
      have hbs:=zaJ (b:=w.heap.size) HB8.out xl 0 0 0 0 xS
      generalize (xC V8 w.heap.size xF:World)=W5 at*
      obtain⟨s0_,s1_,s2_,s3_,s4_⟩:=hs
      exact bodyPost_ret (v:=.tuple #[.agg xF,xI 4]) (by simp[results,Tryz.results18,go_sem,s0_,s1_,s2_,s3_,s4_]) rfl ⟨⟨_,_,rfl,.inl ⟨HPF.out,_,_,rfl,zaW _ _⟩⟩,hbs⟩
   subst he
   obtain⟨t,rfl,h15,htl,hr⟩:=HSL.out.1 rfl
   have HRN:=xh hr
   have HTL:=xh htl
   clear h15 htl hr HSL
   by_cases hok:FrOk f1 f2 f3 f4 fs
   rotate_left
   ·have HPF:Hid (frPF xs=.inl 4):=HNOF.out (fun ps h=>by
     rw[HRN.out]at h
     simp only[Option.some.injEq,Prod.mk.injEq]at h
     rw[←h.1];exact hok)
    have cC:∀W,Ps W (.slice a3 fs.length c3) fs→Calls Tryz.prog 13 #[.agg (xA f1 f2 f3 f4 (.slice a3 fs.length c3))] W fun e9 w'=>e9=.returned (xI 1)∧Below W.heap.size W w':=fun W h=>by
     have h:=zb8 f1 f2 f3 f4 a3 c3 fs W h HGD.out.few
     rwa [show frK f1 f2 f3 f4 fs=1 from if_neg hok]at h
    have cD:∀W,Rd W G (t:Int) 0→Calls Tryz.prog 34 #[xP G,.agg (xA f1 f2 f3 f4 (.slice a3 fs.length c3)),.bool false] W fun e9 w'=>e9=.returned (.tuple #[.agg xF,xI 0,xI 4])∧Onl G W w':=fun W h=>zdH G f1 f2 f3 f4 a3 fs.length c3 false t 0 4 W h rfl (by decide)
    clear hok
    go_region_with (first
     | (go_at_call 13;refine(cC _ OW.out.ps).mono ?_;rintro e9 V88 ⟨rfl,hb⟩;replace OX:=xh (OX.out.below hb);replace OW:=xh (OW.out.below hb);replace HC:=xh (HC.out.trans (hb.mono (HGL.out _ HC.out)));replace R:=xh (R.out.below hb);clear hb;clear x0 x1 x2 x3 x4;obtain⟨⟨x0,x1,x2,x3,x4⟩,-⟩:=OX.out)
     | (go_at_call 34;refine(cD _ R.out).mono ?_;rintro e9 V99 ⟨rfl,ho⟩;replace OX:=xh (OX.out.onl ho (by omega));replace OW:=xh (OW.out.onl ho (by omega));replace HC:=xh (HC.out.trans (ho.below xl (HGL.out _ HC.out)));clear ho;clear x0 x1 x2 x3 x4;obtain⟨⟨x0,x1,x2,x3,x4⟩,xf⟩:=OX.out))
    all_goals
     go_upto_region 13 with (fail)
     clear x0 x1 x2 x3 x4 xf
     have OX8:=xh (OX.out.set 0 0 0 0 xS)
     have HC8:=xh (zaJ (b:=X) HC.out (Nat.le_of_lt hg1) 0 0 0 0 xS)
     have OW8:=xh (OW.out.onl ((((((Onl.refl X V99).set 0 (xI 0)).set 1 (xI 0)).set 2 (xI 0)).set 3 (xI 0)).set 4 xS) hg2)
     generalize (xC V99 X xF:World)=V8 at*
     have OR8:=xh (HORV.out _ HC8.out)
     have HB8:=xh (HBV.out _ HC8.out)
     obtain⟨⟨u0,u1,u2,u3,u4⟩,uf⟩:=OR8.out
     go_wp2_with fail
     have hs:=(OR8.out.set 0 0 0 0 xS).1
     have hbs:=zaJ (b:=w.heap.size) HB8.out xl 0 0 0 0 xS
     generalize (xC V8 w.heap.size xF:World)=W5 at*
     obtain⟨s0_,s1_,s2_,s3_,s4_⟩:=hs
     exact bodyPost_ret (v:=.tuple #[.agg xF,xI 4]) (by simp[results,Tryz.results18,go_sem,s0_,s1_,s2_,s3_,s4_]) rfl ⟨⟨_,_,rfl,.inl ⟨HPF.out,_,_,rfl,zaW _ _⟩⟩,hbs⟩
   have HOK:=xh hok
   have cC:∀W,Ps W (.slice a3 fs.length c3) fs→Calls Tryz.prog 13 #[.agg (xA f1 f2 f3 f4 (.slice a3 fs.length c3))] W fun e9 w'=>e9=.returned (xI 0)∧Below W.heap.size W w':=fun W h=>by
    have h:=zb8 f1 f2 f3 f4 a3 c3 fs W h HGD.out.few
    rwa [show frK f1 f2 f3 f4 fs=0 from if_pos hok]at h
   have cD:∀W,Rd W G (t:Int) 0→Calls Tryz.prog 34 #[xP G,.agg (xA f1 f2 f3 f4 (.slice a3 fs.length c3)),.bool true] W fun e9 w'=>e9=.returned (.tuple #[.agg (xA f1 f2 f3 f4 (.slice a3 fs.length c3)),xI (t:Int),xI 0])∧Onl G W w':=fun W h=>zkb G f1 f2 f3 f4 a3 fs.length c3 t W h
   clear hok
   go_region_with (first
    | (go_at_call 13;refine(cC _ OW.out.ps).mono ?_;rintro e9 V88 ⟨rfl,hb⟩;replace OX:=xh (OX.out.below hb);replace OW:=xh (OW.out.below hb);replace HC:=xh (HC.out.trans (hb.mono (HGL.out _ HC.out)));replace R:=xh (R.out.below hb);clear hb;clear x0 x1 x2 x3 x4;obtain⟨⟨x0,x1,x2,x3,x4⟩,-⟩:=OX.out)
    | (go_at_call 34;refine(cD _ R.out).mono ?_;rintro e9 V99 ⟨rfl,ho⟩;replace OX:=xh (OX.out.onl ho (by omega));replace OW:=xh (OW.out.onl ho (by omega));replace HC:=xh (HC.out.trans (ho.below xl (HGL.out _ HC.out)));clear ho;clear x0 x1 x2 x3 x4;obtain⟨⟨x0,x1,x2,x3,x4⟩,xf⟩:=OX.out))
   all_goals
    go_upto_region 13 with (fail)
    clear x0 x1 x2 x3 x4 xf
    have OX8:=xh (OX.out.set f1 f2 f3 f4 (.slice a3 fs.length c3))
    have HC8:=xh (zaJ (b:=X) HC.out (Nat.le_of_lt hg1) f1 f2 f3 f4 (.slice a3 fs.length c3))
    have OW8:=xh (OW.out.onl ((((((Onl.refl X V99).set 0 (xI f1)).set 1 (xI f2)).set 2 (xI f3)).set 3 (xI f4)).set 4 (.slice a3 fs.length c3)) hg2)
    generalize (xC V99 X (xA f1 f2 f3 f4 (.slice a3 fs.length c3)):World)=V8 at*
    have OR8:=xh (HORV.out _ HC8.out)
    have HB8:=xh (HBV.out _ HC8.out)
    obtain⟨⟨u0,u1,u2,u3,u4⟩,uf⟩:=OR8.out
    by_cases htm:t=m
    rotate_left
    ·have htm':((t:Int) !=(m:Int))=true:=by simp;omega
     have HPF:Hid (frPF xs=.inl 4):=HNOF.out (fun ps h=>by
      rw[HRN.out]at h
      simp only[Option.some.injEq,Prod.mk.injEq]at h
      have h9:=congrArg List.length h.2
      rw[List.length_drop,HYL.out]at h9
      have:=HTL.out
      rw[HYL.out]at this
      simp at h9
      omega)
     clear htm
     go_wp2_with fail
     have hs:=(OR8.out.set 0 0 0 0 xS).1
     have hbs:=zaJ (b:=w.heap.size) HB8.out xl 0 0 0 0 xS
     generalize (xC V8 w.heap.size xF:World)=W5 at*
     obtain⟨s0_,s1_,s2_,s3_,s4_⟩:=hs
     exact bodyPost_ret (v:=.tuple #[.agg xF,xI 4]) (by simp[results,Tryz.results18,go_sem,s0_,s1_,s2_,s3_,s4_]) rfl ⟨⟨_,_,rfl,.inl ⟨HPF.out,_,_,rfl,zaW _ _⟩⟩,hbs⟩
    have htm':((t:Int) !=(m:Int))=false:=by simp[htm]
    have HPF:Hid (frPF xs=.inr ⟨f1,f2,f3,f4,fs⟩):=HOKF.out fs (by rw[HRN.out,htm,←HYL.out,List.drop_length]) HOK.out
    clear htm
    obtain⟨⟨x0,x1,x2,x3,x4⟩,xf⟩:=OX8.out
    go_wp2_with fail
    have hs:=(OR8.out.set f1 f2 f3 f4 (.slice a3 fs.length c3)).1
    have hbs:=zaJ (b:=w.heap.size) HB8.out xl f1 f2 f3 f4 (.slice a3 fs.length c3)
    have how:=(OW8.out.onl ((((((Onl.refl w.heap.size V8).set 0 (xI f1)).set 1 (xI f2)).set 2 (xI f3)).set 3 (xI f4)).set 4 (.slice a3 fs.length c3)) (by have:=HWG.out;omega)).mono (show w.heap.size≤S by have:=HWG.out;omega)
    generalize (xC V8 w.heap.size (xA f1 f2 f3 f4 (.slice a3 fs.length c3)):World)=W5 at*
    obtain⟨s0_,s1_,s2_,s3_,s4_⟩:=hs
    exact bodyPost_ret (v:=.tuple #[.agg (xA f1 f2 f3 f4 (.slice a3 fs.length c3)),xI 0]) (by simp[results,Tryz.results18,go_sem,s0_,s1_,s2_,s3_,s4_]) rfl ⟨⟨_,_,rfl,.inr ⟨⟨f1,f2,f3,f4,fs⟩,HPF.out,rfl,_,_,rfl,how⟩⟩,hbs⟩
end Go.Proofs.YtjghebcnmoojmaaGreat
