/- A row of acks read out of bytes: A row of acks read out of bytes: One form for each answer, the program's and the document's; -/
import Derived.Test.YtjghebcnmoojmaaGreatV26
import Derived.Test.YtjghebcnmoojmaaGreatV31
import Derived.Test.YtjghebcnmoojmaaGreatV33
set_option maxRecDepth 100000
set_option maxHeartbeats 32000000
namespace Go.Proofs.YtjghebcnmoojmaaGreat
open Go.RowKit MX
theorem zeY (b:Nat)(a:Option Addr)(l c:Nat)(ok:Bool)(at' e0 e1:Int)(w:World)(h:Rd w b at' e0)(hn:zai e0 ok=e1)(he:e1≠0):
  Calls Tryz.prog 116 #[xP b,.slice a l c,.bool ok] w fun e w'=>e=.returned (.tuple #[xS,xI 0,xI e1])∧Onl b w w':=by
 have hne:(e1==0)=false:=by simpa using he
 have cN:=zay b ok at' e0 w h
 rw[hn]at cN
 clear h hn he
 go_enter Tryz.func116,Tryz.ntmps116
 go_wp2_with (go_at_call 57;refine cN.mono ?_;rintro e w1 ⟨rfl,hR,hO⟩;have HO:=xh hO;clear hO;obtain⟨z0,z1,zf⟩:=hR)
 go_region
 go_wp2_with fail
 go_ret3
 exact⟨rfl,HO.out.then xr.drew HO.out.size⟩
theorem zi7 (b:Nat)(a:Option Addr)(l c:Nat)(at':Int)(w:World)(h:Rd w b at' 0):
  Calls Tryz.prog 116 #[xP b,.slice a l c,.bool true] w fun e w'=>e=.returned (.tuple #[.slice a l c,xI at',xI 0])∧Onl b w w':=by
 have cN:=zay b true at' 0 w h
 rw[show zai 0 true=0 from rfl]at cN
 clear h
 go_enter Tryz.func116,Tryz.ntmps116
 go_wp2_with (go_at_call 57;refine cN.mono ?_;rintro e w1 ⟨rfl,hR,hO⟩;have HO:=xh hO;clear hO;obtain⟨z0,z1,zf⟩:=hR)
 go_region
 go_wp2_with fail
 go_ret3
 exact⟨rfl,HO.out.then xr.drew HO.out.size⟩
def zc6 (xs:List Int)(r:List (Int×Int×Int×Int)×(Int×Int)):List (Int×Int×Int×Int)×(Int×Int):=
 (r.1++[((numS xs 1 r.2).1,(numS xs 4 (numS xs 1 r.2).2).1,(numS xs 2 (numS xs 4 (numS xs 1 r.2).2).2).1,(numS xs 2 (numS xs 2 (numS xs 4 (numS xs 1 r.2).2).2).2).1)],(numS xs 2 (numS xs 2 (numS xs 4 (numS xs 1 r.2).2).2).2).2)
def itA (xs:List Int):Nat→List (Int×Int×Int×Int)×(Int×Int)→List (Int×Int×Int×Int)×(Int×Int)
 | 0,r=>r
 | n+1,r=>itA xs n (zc6 xs r)
theorem zfv (xs:List Int):∀(n:Nat) (r:List (Int×Int×Int×Int)×(Int×Int)),itA xs (n+1) r=zc6 xs (itA xs n r)
 | 0,_=>rfl
 | n+1,r=>by rw[itA,zfv xs n (zc6 xs r),itA]
theorem zkk (xs:List Int):∀(n:Nat) (r:List (Int×Int×Int×Int)×(Int×Int)),(itA xs n r).1.length=r.1.length+n
 | 0,_=>rfl
 | n+1,r=>by rw[zfv,zc6];simp[zkk xs n r];omega
theorem zfH {xs:List Int}{n p e:Int}(h:e≠0):numS xs n (p,e)=(0,(p,e)):=by simp[numS,h]
theorem zfT (xs:List Int)(n p:Int):numS xs n (p,0)=getS xs p n:=by simp[numS]
theorem zdz {xs:List Int}{p e:Int}(h:e≠0):∀(n:Nat) (ys:List (Int×Int×Int×Int)),(itA xs n (ys,(p,e))).2=(p,e)
 | 0,_=>rfl
 | n+1,ys=>by
  have h1:zc6 xs (ys,(p,e))=(ys++[(0,0,0,0)],(p,e)):=by simp only[zc6,zfH h]
  rw[itA,h1]
  exact zdz h n _
theorem zmo (xs:List Int):∀(n:Nat) (p:Int) (acc:List (Int×Int×Int×Int)),akP xs n p acc=if(itA xs n (acc,(p,0))).2.2≠0 then .inl (itA xs n (acc,(p,0))).2.2 else .inr ((itA xs n (acc,(p,0))).1,(itA xs n (acc,(p,0))).2.1)
 | 0,p,acc=>by simp[akP,itA]
 | n+1,p,acc=>by
  obtain⟨a1,a2,a3,ha⟩:∃x y z,getS xs p 1=(x,y,z):=⟨_,_,_,rfl⟩
  obtain⟨b1,b2,b3,hb⟩:∃x y z,getS xs a2 4=(x,y,z):=⟨_,_,_,rfl⟩
  obtain⟨c1,c2,c3,hc⟩:∃x y z,getS xs b2 2=(x,y,z):=⟨_,_,_,rfl⟩
  obtain⟨d1,d2,d3,hd⟩:∃x y z,getS xs c2 2=(x,y,z):=⟨_,_,_,rfl⟩
  have p1:rdP xs p 1=a2:=by show(getS xs p 1).2.1=a2;rw[ha]
  have p2:rdP xs p 2=b2:=by show(getS xs (rdP xs p 1) 4).2.1=b2;rw[p1,hb]
  have p3:rdP xs p 3=c2:=by show(getS xs (rdP xs p 2) 2).2.1=c2;rw[p2,hc]
  have p4:rdP xs p 4=d2:=by show(getS xs (rdP xs p 3) 2).2.1=d2;rw[p3,hd]
  have v0:rdV xs p 0=a1:=by show(getS xs p 1).1=a1;rw[ha]
  have v1:rdV xs p 1=b1:=by show(getS xs (rdP xs p 1) 4).1=b1;rw[p1,hb]
  have v2:rdV xs p 2=c1:=by show(getS xs (rdP xs p 2) 2).1=c1;rw[p2,hc]
  have v3:rdV xs p 3=d1:=by show(getS xs (rdP xs p 3) 2).1=d1;rw[p3,hd]
  have e0:rdE xs p 0=a3:=by show(getS xs p 1).2.2=a3;rw[ha]
  have e1:rdE xs p 1=b3:=by show(getS xs (rdP xs p 1) 4).2.2=b3;rw[p1,hb]
  have e2:rdE xs p 2=c3:=by show(getS xs (rdP xs p 2) 2).2.2=c3;rw[p2,hc]
  have e3:rdE xs p 3=d3:=by show(getS xs (rdP xs p 3) 2).2.2=d3;rw[p3,hd]
  rw[akP,itA,e0,e1,e2,e3,p4,v0,v1,v2,v3]
  by_cases h0:a3=0
  ·subst h0
   rw[if_neg (by simp)]
   by_cases h1:b3=0
   ·subst h1
    rw[if_neg (by simp)]
    by_cases h2:c3=0
    ·subst h2
     rw[if_neg (by simp)]
     have hs:zc6 xs (acc,(p,0))=(acc++[(a1,b1,c1,d1)],(d2,d3)):=by simp only[zc6,zfT,ha,hb,hc,hd]
     rw[hs]
     by_cases h3:d3=0
     ·subst h3
      rw[if_neg (by simp)]
      exact zmo xs n d2 _
     ·rw[if_pos h3,zdz h3,if_pos h3]
    ·have hs:zc6 xs (acc,(p,0))=(acc++[(a1,b1,c1,0)],(c2,c3)):=by simp only[zc6,zfT,ha,hb,hc,zfH h2]
     rw[if_pos h2,hs,zdz h2,if_pos h2]
   ·have hs:zc6 xs (acc,(p,0))=(acc++[(a1,b1,0,0)],(b2,b3)):=by simp only[zc6,zfT,ha,hb,zfH h1]
    rw[if_pos h1,hs,zdz h1,if_pos h1]
  ·have hs:zc6 xs (acc,(p,0))=(acc++[(a1,0,0,0)],(a2,a3)):=by simp only[zc6,zfT,ha,zfH h0]
   rw[if_pos h0,hs,zdz h0,if_pos h0]
def finA (r:List (Int×Int×Int×Int)×(Int×Int)):Int ⊕ (List (Int×Int×Int×Int)×Int):=if r.2.2≠0 then .inl r.2.2 else if zbq r.1 then .inr (r.1,r.2.1)else .inl 4
theorem zks (xs:List Int)(k:Int):acPF xs k=finA (itA xs (numS xs 1 (k,0)).1.toNat ([],(numS xs 1 (k,0)).2)):=by
 obtain⟨g1,g2,g3,hg⟩:∃x y z,getS xs k 1=(x,y,z):=⟨_,_,_,rfl⟩
 unfold acPF finA
 simp only[zfT,hg]
 by_cases h:g3=0
 ·subst h
  rw[if_neg (by simp),zmo]
  generalize itA xs g1.toNat ([],(g2,0))=r
  obtain⟨ys,q,e⟩:=r
  simp only
  by_cases h3:e=0
  ·subst h3;rfl
  ·simp[h3]
 ·rw[if_pos h,zdz h,if_pos h]
theorem zjE {ops:Array Oper}{rest:List Oper}{o:Oper}{a:Act}{Q:Exit→Act→World→Prop}{W:World}(hgd:o.guard=none)(s x:Operand)
  (ho:o.op=.call {callee:=.builtin .append,args:=#[s,x],argTypes:=#[46,46]}) (w:World) (r0 r1 r2 r3:Int) (hW:W=w.alloc (.cells #[xI r0,xI r1,xI r2,xI r3] 120)) (S:Nat) (v:Value) (xs:List (Int×Int×Int×Int))
  (hs:a.eval s=v) (hx:a.eval x=.slice (some (w.heap.size,0)) 1 1) (hown:w.ownsRow S 120 4 v xs.length (aflat xs)) (hl:xs.length≤3000) (hS:S≤w.heap.size)
  (h:∀g cap w',w'.ownsRow S 120 4 (.slice (some (xQ g 0)) (xs.length+1) cap) (xs++[(r0,r1,r2,r3)]).length (aflat (xs++[(r0,r1,r2,r3)]))→Below S w w'→wpList Tryz.prog ops Q rest (a.put o.dst (.slice (some (xQ g 0)) (xs.length+1) cap)) w'):wpList Tryz.prog ops Q (o::rest) a W:=
 zeK (R:=RA) hgd s x ho w (r0,r1,r2,r3) 120 hW S v xs hs hx hown hl hS h
theorem zbd (b:Nat)(a:Option Addr)(l c:Nat)(xs:List Int)(n s e v s2 e2:Int)(h1:numS xs n (s,e)=(v,s2,e2))(V:World)(h:Rd V b s e)(hv:Bs V (.slice a l c) xs):
  Calls Tryz.prog 31 #[xP b,.slice a l c,xI n] V fun e w'=>e=.returned (xI v)∧Rd w' b s2 e2∧Onl b V w':=by
 have h2:=zad b (.slice a l c) xs n s e V h hv
 rw[h1]at h2
 exact h2
theorem ziY (b:Nat)(a:Option Addr)(c:Nat)(ys:List (Int×Int×Int×Int))(q:Bool)(hq:q=true↔zbq ys)(s e:Int)(w0 w:World)(h:Rd w b s e)(hown:w.ownsRow w0.heap.size 120 4 (.slice a ys.length c) ys.length (aflat ys))(hb:b<w0.heap.size)(w00:World)(h00:w00.heap.size≤w0.heap.size):
  Calls Tryz.prog 116 #[xP b,.slice a ys.length c,.bool q] w fun e' w'=>∃(r:Value) (t k:Int),e'=.returned (.tuple #[r,xI t,xI k])∧zmm w00 (finA (ys,(s,e))) r t k w'∧Onl b w w':=by
 unfold finA
 simp only
 by_cases he:e=0
 ·subst he
  rw[if_neg (by simp)]
  cases q with
  | true=>
   rw[if_pos (hq.1 rfl)]
   exact(zi7 b a ys.length c s w h).mono fun e' w' ⟨h1,h2⟩=>⟨_,_,_,h1,⟨rfl,rfl,zas (zaY hown h2 hb) h00⟩,h2⟩
  | false=>
   rw[if_neg (fun h=>by cases hq.2 h)]
   exact(zeY b a ys.length c false s 0 4 w h rfl (by decide)).mono fun e' w' ⟨h1,h2⟩=>⟨_,_,_,h1,⟨rfl,rfl,rfl⟩,h2⟩
 ·rw[if_pos he]
  exact(zeY b a ys.length c q s e e w h (by simp[zai,he]) he).mono fun e' w' ⟨h1,h2⟩=>⟨_,_,_,h1,⟨rfl,rfl,rfl⟩,h2⟩
theorem zgP (v:Value)(xs:List Int)(k:Int)(w:World)(hv:Bs w v xs):
  Calls Tryz.prog 95 #[v,xI k] w fun e w'=>(∃u t k9,e=.returned (.tuple #[u,xI t,xI k9])∧zmm w (acPF xs k) u t k9 w')∧Below w.heap.size w w':=by
 obtain⟨a,l,c,rfl⟩:=zal hv
 rw[zks]
 obtain⟨cn,s1,e1,h1⟩:∃x y z,numS xs 1 (k,0)=(x,y,z):=⟨_,_,_,rfl⟩
 have hcn:0≤cn∧cn≤255:=by have:=zem hv.1 (k,0);rw[h1]at this;exact this
 obtain⟨C,rfl⟩:∃C:Nat,cn=C:=⟨cn.toNat,by omega⟩
 have C1:=xh (fun V=>zbd w.heap.size a l c xs 1 k 0 C s1 e1 h1 V)
 rw[h1]
 simp only[Int.toNat_natCast]
 have HV:=xh hv
 have HCN:=xh hcn
 clear hv h1 hcn
 obtain⟨st,hst⟩:∃st,(([]:List (Int×Int×Int×Int)),(s1,e1))=st:=⟨_,rfl⟩
 rw[hst]
 have HST:=xh hst
 clear hst
 go_enter Tryz.func95,Tryz.ntmps95
 go_wp2_with fail
 refine(za6 _ _).mono ?_
 rintro e _ ⟨rfl,rfl⟩
 have R:=xh (zaO w k w.heap.size rfl)
 have HB:Hid (Below w.heap.size w (w.alloc (.cells #[xI k,xI 0] 89))):=xr.alloc xl _
 have HS0:Hid ((w.alloc (.cells #[xI k,xI 0] 89)).heap.size=w.heap.size+1):=by show _=_;simp
 generalize w.alloc (.cells #[xI k,xI 0] 89)=V0 at*
 go_wp2_with fail
 refine(C1.out _ R.out (zaa HV.out HB.out)).mono ?_
 rintro e V1 ⟨rfl,hR,ho⟩
 have HS1:Hid (w.heap.size+1≤V1.heap.size):=by have:=ho.size;have:=HS0.out;show _≤_;omega
 replace HB:=xh (HB.out.trans (ho.below xl HB.out.size))
 have R0:Hid (Rd V1 w.heap.size (itA xs 0 st).2.1 (itA xs 0 st).2.2):=by have h:=HST.out;rw[←h];exact hR
 have HL0:Hid ((itA xs 0 st).1=[]):=by have h:=HST.out;rw[←h];rfl
 have HLN:Hid (∀q,(itA xs q st).1.length=q):=fun q=>by have h:=HST.out;rw[←h,zkk];simp
 clear hR ho R HST HS0 C1
 go_wp2_with fail
 go_loopw [8,14] (fun lv i wr=>∃(q:Nat) (u:Value),q≤C∧i=xI q∧u=lv∧Rd wr w.heap.size (itA xs q st).2.1 (itA xs q st).2.2∧wr.ownsRow (w.heap.size+1) 120 4 u (itA xs q st).1.length (aflat (itA xs q st).1)∧Below w.heap.size w wr∧w.heap.size+1≤wr.heap.size) (fun _ i _=>C-(intOf i).toNat)
 case atStart=>exact⟨0,_,Nat.zero_le _,rfl,rfl,R0.out,by rw[HL0.out];exact zhS _ _,HB.out,HS1.out⟩
 case round=>
  obtain⟨q,u,hq,rfl,rfl,hR,hown,hbel,hSS⟩:=hrel
  have HL:=xh (HLN.out q)
  have HSU:=xh (zfv xs q st)
  obtain⟨⟨ys,s4,e4⟩,hrd⟩:∃r,itA xs q st=r:=⟨_,rfl⟩
  rw[hrd]at hR hown HL HSU
  simp only at hR hown HL HSU
  obtain⟨a3,c3,rfl⟩:=zap hown
  have R:=xh hR
  have OW:=xh hown
  have HB:=xh hbel
  have HS:=xh hSS
  have HRD:=xh hrd
  have HYL:Hid (ys.length≤255):=by have:=HL.out;have:=HCN.out;show _≤_;omega
  clear hR hown hbel hSS hrd
  have hC255:(C:Int)≤255:=HCN.out.2
  by_cases hlt:q<C
  ·obtain⟨y1,s5,e5,n1⟩:∃(x y z:Int),numS xs 1 (s4,e4)=(x,y,z):=⟨_,_,_,rfl⟩
   obtain⟨y2,s6,e6,n2⟩:∃(x y z:Int),numS xs 4 (s5,e5)=(x,y,z):=⟨_,_,_,rfl⟩
   obtain⟨y3,s7,e7,n3⟩:∃(x y z:Int),numS xs 2 (s6,e6)=(x,y,z):=⟨_,_,_,rfl⟩
   obtain⟨y4,s8,e8,n4⟩:∃(x y z:Int),numS xs 2 (s7,e7)=(x,y,z):=⟨_,_,_,rfl⟩
   have HN:Hid (itA xs (q+1) st=(ys++[(y1,y2,y3,y4)],(s8,e8))):=by show _=_;rw[HSU.out,zc6];simp only[n1,n2,n3,n4]
   have N1:=xh (fun V=>zbd w.heap.size a l c xs 1 s4 e4 y1 s5 e5 n1 V)
   have N2:=xh (fun V=>zbd w.heap.size a l c xs 4 s5 e5 y2 s6 e6 n2 V)
   have N3:=xh (fun V=>zbd w.heap.size a l c xs 2 s6 e6 y3 s7 e7 n3 V)
   have N4:=xh (fun V=>zbd w.heap.size a l c xs 2 s7 e7 y4 s8 e8 n4 V)
   clear n1 n2 n3 n4 HSU
   go_wp2_with fail
   refine(N1.out _ R.out (zaa HV.out HB.out)).mono ?_
   rintro e V2 ⟨rfl,hR,ho⟩
   have R1:=xh hR
   have OW1:=xh (zaY OW.out ho (Nat.lt_succ_self _))
   have HB1:=xh (HB.out.trans (ho.below xl HB.out.size))
   have HS1:Hid (w.heap.size+1≤V2.heap.size):=Nat.le_trans HS.out ho.size
   clear hR ho
   go_wp2_with fail
   refine(N2.out _ R1.out (zaa HV.out HB1.out)).mono ?_
   rintro e V3 ⟨rfl,hR,ho⟩
   have R2:=xh hR
   have OW2:=xh (zaY OW1.out ho (Nat.lt_succ_self _))
   have HB2:=xh (HB1.out.trans (ho.below xl HB1.out.size))
   have HS2:Hid (w.heap.size+1≤V3.heap.size):=Nat.le_trans HS1.out ho.size
   clear hR ho
   go_wp2_with fail
   refine(N3.out _ R2.out (zaa HV.out HB2.out)).mono ?_
   rintro e V4 ⟨rfl,hR,ho⟩
   have R3:=xh hR
   have OW3:=xh (zaY OW2.out ho (Nat.lt_succ_self _))
   have HB3:=xh (HB2.out.trans (ho.below xl HB2.out.size))
   have HS3:Hid (w.heap.size+1≤V4.heap.size):=Nat.le_trans HS2.out ho.size
   clear hR ho
   go_wp2_with fail
   refine(N4.out _ R3.out (zaa HV.out HB3.out)).mono ?_
   rintro e V5 ⟨rfl,hR,ho⟩
   have R4:=xh hR
   have OW4:=xh (zaY OW3.out ho (Nat.lt_succ_self _))
   have HB4:=xh (HB3.out.trans (ho.below xl HB3.out.size))
   have HS4:Hid (w.heap.size+1≤V5.heap.size):=Nat.le_trans HS3.out ho.size
   clear hR ho
   go_wp2_with (at_builtin;(skip;refine zjE rfl (.tmp 16) (.tmp 30) rfl V5 y1 y2 y3 y4 rfl (w.heap.size+1) (.slice a3 ys.length c3) ys rfl rfl OW4.out (by have:=HYL.out;omega) HS4.out ?_;intro gq cq w3 hown hb;have OQ:=xh hown;have HB5:Hid (Below w.heap.size w w3):=HB4.out.trans (hb.mono (Nat.le_succ _));have R5:=xh (R4.out.low (Nat.lt_succ_self _) hb);(have HS5:Hid (w.heap.size+1≤w3.heap.size):=Nat.le_trans HS4.out hb.size);clear hown hb))
   go_roundw
   case rel=>exact⟨q+1,_,by omega,by go_num,rfl,by rw[HN.out];exact R5.out,by rw[HN.out];simpa using OQ.out,HB5.out,HS5.out⟩
   case measure=>simp[intOf];omega
  ·obtain rfl:q=C:=by omega
   clear HSU
   obtain⟨qq,hqq⟩:∃qq:Bool,qq=true↔zbq ys:=⟨decide (zbq ys),decide_eq_true_iff⟩
   have CC:=xh (zdd (.slice a3 ys.length c3) ys qq hqq wr (zeC OW.out).1 (by have:=HYL.out;omega))
   have HQ:=xh hqq
   clear hqq
   go_wp2_with fail
   refine CC.out.mono ?_
   rintro e V5 ⟨rfl,hb⟩
   have R5:=xh (R.out.below hb)
   have OW5:=xh (zae OW.out hb)
   have HB5:=xh (HB.out.trans (hb.mono HB.out.size))
   have HS5:Hid (w.heap.size+1≤V5.heap.size):=Nat.le_trans HS.out hb.size
   have CD:=xh (ziY w.heap.size a3 c3 ys qq HQ.out s4 e4 (w.alloc (.cells #[xI 0,xI 0] 89)) V5 R5.out (by simpa using OW5.out) (by simp) w (by simp))
   clear hb CC
   cases qq with
   | true=>
    simp only[errQ]
    go_wp2_with fail
    refine CD.out.mono ?_
    rintro e V6 ⟨r9,t9,k9,rfl,hp,ho⟩
    have HP:=xh hp
    have HB6:=xh (HB5.out.trans (ho.below xl HB5.out.size))
    clear hp ho
    go_wp2_with fail
    go_ret3
    exact⟨⟨_,_,_,rfl,by rw[HRD.out];exact HP.out⟩,HB6.out⟩
   | false=>
    simp only[errQ]
    go_wp2_with fail
    refine CD.out.mono ?_
    rintro e V6 ⟨r9,t9,k9,rfl,hp,ho⟩
    have HP:=xh hp
    have HB6:=xh (HB5.out.trans (ho.below xl HB5.out.size))
    clear hp ho
    go_wp2_with fail
    go_ret3
    exact⟨⟨_,_,_,rfl,by rw[HRD.out];exact HP.out⟩,HB6.out⟩
def byA (ys:List (Int×Int×Int×Int)):List Int:=if zbq ys then acB ys else[]
def byE (ys:List (Int×Int×Int×Int)):Int:=if zbq ys then 0 else 1
theorem znm {ys:List (Int×Int×Int×Int)}(h:zbq ys):∀x∈acB ys,0≤x∧x<256:=fun x hx=>by
 unfold acB at hx
 rcases List.mem_append.1 hx with hx|hx
 ·rw[List.mem_singleton.1 hx];have:=h.2.2;omega
 ·obtain⟨l,hl,hx⟩:=List.mem_flatten.1 hx
  obtain⟨y,hy,rfl⟩:=List.mem_map.1 hl
  obtain⟨i,hi,rfl⟩:=List.mem_iff_getElem.1 hy
  have h1:=(h.1 i hi).1
  have e:ys.getD i (0,0,0,0)=ys[i]:=by simp[List.getD,hi]
  rw[e]at h1
  unfold akB at hx
  rcases List.mem_cons.1 hx with hx|hx
  ·rw[hx];have:=h1.1;omega
  ·rcases List.mem_append.1 hx with hx|hx
   ·exact zdG x hx
   ·rcases List.mem_append.1 hx with hx|hx
    ·exact zdG x hx
    ·exact zdG x hx
theorem zoo (ys:List (Int×Int×Int×Int)):(acB ys).length=1+9*ys.length:=by
 unfold acB
 rw[List.length_append,zbY];rfl
def paY (r:Int ⊕ (List (Int×Int×Int×Int)×Int)):List (Int×Int×Int×Int):=match r with
 | .inl _=>[]
 | .inr (ys,_)=>ys
def paT (r:Int ⊕ (List (Int×Int×Int×Int)×Int)):Int:=match r with
 | .inl _=>0
 | .inr (_,to)=>to
def paK (r:Int ⊕ (List (Int×Int×Int×Int)×Int)):Int:=match r with
 | .inl e=>e
 | .inr _=>0
end Go.Proofs.YtjghebcnmoojmaaGreat
