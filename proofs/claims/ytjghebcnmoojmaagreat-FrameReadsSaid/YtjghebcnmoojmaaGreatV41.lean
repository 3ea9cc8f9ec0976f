/- A part of a kind, of so many bytes: Parts one behind the other, as the program reads them; -/
import Derived.Test.YtjghebcnmoojmaaGreatV40
set_option maxRecDepth 100000
set_option maxHeartbeats 32000000
namespace Go.Proofs.YtjghebcnmoojmaaGreat
open Go.RowKit MX MR
def zbp (xs:List Int)(q k n:Int):Option Pt:=if(xs.length:Int)-q<n then none else zaE k ((xs.drop q.toNat).take n.toNat)
def RetG (w:World)(o:Option Pt)(to:Int)(e:Ending)(w':World):Prop:=
 (match o with
  | none=>e=.returned (.tuple #[.agg xL,xI 0,xI 4])
  | some p=>∃r:RPt,e=.returned (.tuple #[.agg (xR r),xI to,xI 0])∧r.Ow w' w.heap.size p)∧Below w.heap.size w w'
theorem OwnT.set0 {w:World}{b:Nat}{r:RPt}(h:OwnT w b r)(k:Int):OwnT (w.setCell (xQ b 0) (xI k)) b (r.withK k):=by
 obtain⟨⟨h0,h1,h2,h3,h4,h5,h6,h7,h8,h9,h10⟩,hf⟩:=h
 refine⟨⟨?_,?_,?_,?_,?_,?_,?_,?_,?_,?_,?_⟩,fun j=>?_⟩<;>simp[go_sem,RPt.withK,hf,h0,h1,h2,h3,h4,h5,h6,h7,h8,h9,h10]
theorem ziE (v:Value)(xs:List Int)(q k n:Int)(w:World)(hv:Bs w v xs)(hq:0≤q∧q≤xs.length)(_:0≤n∧n≤65535)(_:1≤xs.length)(hl:(xs.length:Int)-q<n):Calls Tryz.prog 55 #[v,xI q,xI k,xI n] w (RetG w (zbp xs q k n) (q+n)):=by
 obtain⟨a,l,c,rfl⟩:=zal hv
 obtain⟨rfl,hlc⟩:=za0 hv
 have hsw:IntKind.i64.wrap ((xs.length:Int)-q)=(xs.length:Int)-q:=by rw[IntKind.wrap_i64];have:=hv.2.1;omega
 have OR:Hid (OwnT (w.alloc (.cells xL 50)) w.heap.size (⟨0,0,none,0,0,0,none,0,0,none,0,0,0,0,0,0,⟨#[]⟩⟩:RPt)):=zac w (⟨0,0,none,0,0,0,none,0,0,none,0,0,0,0,0,0,⟨#[]⟩⟩:RPt) 50 w.heap.size rfl
 have HB:Hid (Below w.heap.size w (w.alloc (.cells xL 50))):=xr.alloc xl _
 have HS0:Hid ((w.alloc (.cells xL 50)).heap.size=w.heap.size+1):=by show _=_;simp
 have HV:=xh (zaa hv HB.out)
 obtain⟨V0,hV0⟩:∃V0,w.alloc (.cells xL 50)=V0:=⟨_,rfl⟩
 rw[hV0]at OR HB HV HS0
 have HV0:=xh hV0
 clear hV0
 have k2':decide ((xs.length:Int)-q<n)=true:=decide_eq_true hl
 have HO:Hid (zbp xs q k n=none):=if_pos hl
 clear hv hq hl hlc HV
 go_enter Tryz.func55,Tryz.ntmps55
 go_upto_region 1 with (fail)
 rw[HV0.out]
 clear HV0
 obtain⟨⟨u0,u1,u2,u3,u4,u5,u6,u7,u8,u9,u10⟩,uf⟩:=OR.out
 go_wp2_with fail
 have hs:=(OR.out.setall (⟨0,0,none,0,0,0,none,0,0,none,0,0,0,0,0,0,⟨#[]⟩⟩:RPt)).1
 have hbs:=zag (b:=w.heap.size) HB.out xl (⟨0,0,none,0,0,0,none,0,0,none,0,0,0,0,0,0,⟨#[]⟩⟩:RPt)
 simp only at hs hbs
 generalize (xC V0 w.heap.size xL:World)=W5 at*
 obtain⟨s0_,s1_,s2_,s3_,s4_,s5_,s6_,s7_,s8_,s9_,s10_⟩:=hs
 exact bodyPost_ret (v:=.tuple #[.agg xL,xI (0),xI 4]) (by simp[results,Tryz.results55,go_sem,s0_,s1_,s2_,s3_,s4_,s5_,s6_,s7_,s8_,s9_,s10_]) rfl ⟨by rw[HO.out],hbs⟩
theorem zoO (v:Value)(xs:List Int)(q k n:Int)(w:World)(hv:Bs w v xs)(hq:0≤q∧q≤xs.length)(hn:0≤n∧n≤65535)(h7:1≤xs.length)(hl:¬(xs.length:Int)-q<n)(hk:k=1):Calls Tryz.prog 55 #[v,xI q,xI k,xI n] w (RetG w (zbp xs q k n) (q+n)):=by
 obtain⟨a,l,c,rfl⟩:=zal hv
 obtain⟨rfl,hlc⟩:=za0 hv
 have hsw:IntKind.i64.wrap ((xs.length:Int)-q)=(xs.length:Int)-q:=by rw[IntKind.wrap_i64];have:=hv.2.1;omega
 have OR:Hid (OwnT (w.alloc (.cells xL 50)) w.heap.size (⟨0,0,none,0,0,0,none,0,0,none,0,0,0,0,0,0,⟨#[]⟩⟩:RPt)):=zac w (⟨0,0,none,0,0,0,none,0,0,none,0,0,0,0,0,0,⟨#[]⟩⟩:RPt) 50 w.heap.size rfl
 have HB:Hid (Below w.heap.size w (w.alloc (.cells xL 50))):=xr.alloc xl _
 have HS0:Hid ((w.alloc (.cells xL 50)).heap.size=w.heap.size+1):=by show _=_;simp
 have HV:=xh (zaa hv HB.out)
 obtain⟨V0,hV0⟩:∃V0,w.alloc (.cells xL 50)=V0:=⟨_,rfl⟩
 rw[hV0]at OR HB HV HS0
 have HV0:=xh hV0
 clear hV0
 have k2':decide ((xs.length:Int)-q<n)=false:=decide_eq_false hl
 have hO:zbp xs q k n=zaE k ((xs.drop q.toNat).take n.toNat):=if_neg hl
 obtain⟨p,rfl⟩:∃p:Nat,q=p:=⟨q.toNat,by omega⟩
 obtain⟨m,rfl⟩:∃m:Nat,n=m:=⟨n.toNat,by omega⟩
 rw[Int.toNat_natCast,Int.toNat_natCast]at hO
 have HO:=xh hO
 have HK:=xh hk
 have hpk:p+m≤xs.length:=by omega
 obtain⟨b,o,rfl,hcap⟩:∃b o,a=some ⟨b,o,none⟩∧xs.length≤c:=by
  obtain⟨_,_,⟨a',c',h1,_,rfl⟩|⟨b,o,c',h1,h2,_⟩⟩:=hv
  ·simp at h7
  ·simp only[Value.slice.injEq,true_and]at h1;exact⟨b,o,h1.1,by omega⟩
 have HW9:=xh (zcY HV.out p m hpk hcap)
 obtain⟨A9,hA9⟩:∃A9,(if c=p then(some ⟨b,o,none⟩:Option Addr)else some ⟨b,o+p,none⟩)=A9:=⟨_,rfl⟩
 rw[hA9]at HW9
 obtain⟨ys,hys⟩:∃ys,(xs.drop p).take m=ys:=⟨_,rfl⟩
 have HYL:Hid (ys.length=m):=by show _=_;rw[←hys,List.length_take,List.length_drop];omega
 rw[hys]at HO HW9
 clear hys hO
 have hwk:IntKind.i64.wrap ((p:Int)+(m:Int))=(p:Int)+(m:Int):=by rw[IntKind.wrap_i64];have:=hv.2.1;omega
 have hs0:(0:Int)≤(p:Int):=Int.natCast_nonneg _
 have hs1:(p:Int)≤(p:Int)+(m:Int):=by omega
 have hs2:(p:Int)+(m:Int)≤(c:Int):=by omega
 have hs3:((p:Int)).toNat=p:=Int.toNat_natCast p
 have hs4:((p:Int)+(m:Int)).toNat=p+m:=by omega
 have hs5:p+m-p=m:=by omega
 have cS:=zdp A9 m (c-p) V0
 have hL:(Instr.lookup 124 (.map (some (V0.heap.size+1))) (xI k) true).run Tryz.prog ((V0.alloc (.cells #[.slice A9 m (c-p)] 26)).alloc (.map (ent4 (xW 90 V0.heap.size) (xW 92 V0.heap.size) (xW 94 V0.heap.size) (xW 96 V0.heap.size)) 4))=.ok (.tuple #[(xW 90 V0.heap.size),.bool true]) ((V0.alloc (.cells #[.slice A9 m (c-p)] 26)).alloc (.map (ent4 (xW 90 V0.heap.size) (xW 92 V0.heap.size) (xW 94 V0.heap.size) (xW 96 V0.heap.size)) 4)):=zbH zcm zct _ (ent4 (xW 90 V0.heap.size) (xW 92 V0.heap.size) (xW 94 V0.heap.size) (xW 96 V0.heap.size)) 4 k _ (V0.heap.size+1) 0 (zb7 _ _ _ (by simp)) (by rw[hk];exact zoT _ _ _ _)
 have HBA:Hid (Below V0.heap.size V0 ((V0.alloc (.cells #[.slice A9 m (c-p)] 26)).alloc (.map (ent4 (xW 90 V0.heap.size) (xW 92 V0.heap.size) (xW 94 V0.heap.size) (xW 96 V0.heap.size)) 4))):=((Below.refl _ V0).alloc xl _).alloc (by simp) _
 have HCB:Hid ((((V0.alloc (.cells #[.slice A9 m (c-p)] 26)).alloc (.map (ent4 (xW 90 V0.heap.size) (xW 92 V0.heap.size) (xW 94 V0.heap.size) (xW 96 V0.heap.size)) 4))).cell? (V0.heap.size,0)=some (.slice A9 m (c-p))):=by show _=_;simp
 have HB1:=xh (HB.out.trans (HBA.out.mono HB.out.size))
 have OR1:=xh (OR.out.below HBA.out)
 have HW1:=xh (zaa HW9.out HBA.out)
 have HS1:Hid (w.heap.size<(((V0.alloc (.cells #[.slice A9 m (c-p)] 26)).alloc (.map (ent4 (xW 90 V0.heap.size) (xW 92 V0.heap.size) (xW 94 V0.heap.size) (xW 96 V0.heap.size)) 4))).heap.size):=OR1.out.lt
 clear hv hq hn hl hk h7 hpk hcap hlc HV HW9 OR
 go_enter Tryz.func55,Tryz.ntmps55
 go_upto_region 1 with (fail)
 rw[HV0.out]
 clear HV0
 go_wp2_with fail
 refine cS.mono ?_
 rintro e w9 ⟨rfl,rfl⟩
 clear cS hA9
 have HRD:Hid (zaE k ys=if rcK 1 ys=0∧rcT 1 ys=m then some ((rcP 1 ys).withK k)else none):=by
  show _=_
  rw[HK.out,zlE (by decide),HYL.out]
 go_upto_region 6 with (fail)
 obtain⟨V1,hV1⟩:∃V1,((V0.alloc (.cells #[.slice A9 m (c-p)] 26)).alloc (.map (ent4 (xW 90 V0.heap.size) (xW 92 V0.heap.size) (xW 94 V0.heap.size) (xW 96 V0.heap.size)) 4))=V1:=⟨_,rfl⟩
 rw[hV1]at HB1 OR1 HW1 HCB HS1 ⊢
 clear hL hV1 HBA
 have cP:=gpc1 V0.heap.size _ ys V1 HCB.out HW1.out
 generalize rcT 1 ys=T9 at*
 generalize rcK 1 ys=K9 at*
 generalize rcP 1 ys=P9 at*
 go_wp2_with fail
 refine cP.mono ?_
 rintro e V2 ⟨⟨r,rfl,ho⟩,hb⟩
 have HB2:=xh (HB1.out.trans (hb.mono HB1.out.size))
 have OR2:=xh (OR1.out.below hb)
 have HOW:=xh ho
 clear hb ho cP HCB HW1
 have hal:=(Below.refl V2.heap.size V2).alloc xl (.cells (xR r) 50)
 have HB3:=xh (HB2.out.trans (hal.mono HB2.out.size))
 have OR3:=xh (OR2.out.below hal)
 have HO3:=xh (HOW.out.below hal)
 have HBV:=xh hal
 clear hal
 obtain⟨gv,hgv⟩:∃g,V2.heap.size=g:=⟨_,rfl⟩
 have OV:Hid (OwnT (V2.alloc (.cells (xR r) 50)) gv r):=zac V2 r 50 gv hgv.symm
 have HGV:Hid (w.heap.size<gv):=by rw[←hgv];exact OR2.out.lt
 have HGE:=xh hgv
 clear hgv
 go_upto_region 7 with (fail)
 rw[HGE.out]
 obtain⟨V3,hV3⟩:∃V3,V2.alloc (.cells (xR r) 50)=V3:=⟨_,rfl⟩
 rw[hV3]at HB3 OR3 HO3 OV HBV
 rw[hV3]
 clear hV3
 have hgn1:gv≠w.heap.size:=by have:=HGV.out;omega
 have hgn2:w.heap.size≠gv:=by have:=HGV.out;omega
 by_cases hK:K9=0
 rotate_left
 ·have hK':(K9 !=0)=true:=by simpa using hK
  have HN:Hid (zbp xs p k m=none):=by
   show _=_
   rw[HO.out,HRD.out];exact if_neg (fun h=>hK h.1)
  clear hK
  obtain⟨⟨u0,u1,u2,u3,u4,u5,u6,u7,u8,u9,u10⟩,uf⟩:=OR3.out
  go_wp2_with fail
  have hs:=(OR3.out.setall (⟨0,0,none,0,0,0,none,0,0,none,0,0,0,0,0,0,⟨#[]⟩⟩:RPt)).1
  have hbs:=zag (b:=w.heap.size) HB3.out xl (⟨0,0,none,0,0,0,none,0,0,none,0,0,0,0,0,0,⟨#[]⟩⟩:RPt)
  simp only at hs hbs
  generalize (xC V3 w.heap.size xL:World)=W5 at*
  obtain⟨s0_,s1_,s2_,s3_,s4_,s5_,s6_,s7_,s8_,s9_,s10_⟩:=hs
  exact bodyPost_ret (v:=.tuple #[.agg xL,xI (0),xI 4]) (by simp[results,Tryz.results55,go_sem,s0_,s1_,s2_,s3_,s4_,s5_,s6_,s7_,s8_,s9_,s10_]) rfl ⟨by rw[HN.out],hbs⟩
 have hK':(K9 !=0)=false:=by simpa using hK
 by_cases hT:T9=(m:Int)
 rotate_left
 ·have hT':(T9 !=(m:Int))=true:=by simpa using hT
  have HN:Hid (zbp xs p k m=none):=by
   show _=_
   rw[HO.out,HRD.out];exact if_neg (fun h=>hT h.2)
  clear hK hT
  obtain⟨⟨u0,u1,u2,u3,u4,u5,u6,u7,u8,u9,u10⟩,uf⟩:=OR3.out
  go_wp2_with fail
  have hs:=(OR3.out.setall (⟨0,0,none,0,0,0,none,0,0,none,0,0,0,0,0,0,⟨#[]⟩⟩:RPt)).1
  have hbs:=zag (b:=w.heap.size) HB3.out xl (⟨0,0,none,0,0,0,none,0,0,none,0,0,0,0,0,0,⟨#[]⟩⟩:RPt)
  simp only at hs hbs
  generalize (xC V3 w.heap.size xL:World)=W5 at*
  obtain⟨s0_,s1_,s2_,s3_,s4_,s5_,s6_,s7_,s8_,s9_,s10_⟩:=hs
  exact bodyPost_ret (v:=.tuple #[.agg xL,xI (0),xI 4]) (by simp[results,Tryz.results55,go_sem,s0_,s1_,s2_,s3_,s4_,s5_,s6_,s7_,s8_,s9_,s10_]) rfl ⟨by rw[HN.out],hbs⟩
 have hT':(T9 !=(m:Int))=false:=by simpa using hT
 have HN:Hid (zbp xs p k m=some (P9.withK k)):=by
  show _=_
  rw[HO.out,HRD.out];exact if_pos ⟨hK,hT⟩
 clear hK hT
 have OV4:=xh (OV.out.set0 k)
 have HBV4:Hid (Below V2.heap.size V2 (V3.setCell (xQ gv 0) (xI k))):=HBV.out.setCell (p:=xQ gv 0) (Nat.le_of_eq HGE.out) _
 have HB4:Hid (Below w.heap.size w (V3.setCell (xQ gv 0) (xI k))):=HB3.out.setCell (p:=xQ gv 0) (Nat.le_of_lt HGV.out) _
 have OR4:=xh (OR2.out.below HBV4.out)
 have HO4:=xh ((HOW.out.withK k).below HBV4.out)
 obtain⟨⟨v0,v1,v2,v3,v4,v5,v6,v7,v8,v9,v10⟩,vf⟩:=OV.out
 go_upto_region 10 with (fail)
 clear v0 v1 v2 v3 v4 v5 v6 v7 v8 v9 v10 vf
 obtain⟨V4,hV4⟩:∃V4,V3.setCell (xQ gv 0) (xI k)=V4:=⟨_,rfl⟩
 rw[hV4]at OV4 HBV4 HB4 OR4 HO4 ⊢
 clear hV4
 obtain⟨⟨u0,u1,u2,u3,u4,u5,u6,u7,u8,u9,u10⟩,uf⟩:=OR4.out
 obtain⟨⟨v0,v1,v2,v3,v4,v5,v6,v7,v8,v9,v10⟩,vf⟩:=OV4.out
 simp only[RPt.withK]at v0 v1 v2 v3 v4 v5 v6 v7 v8 v9 v10
 go_wp2_with fail
 have hs:=(OR4.out.setall (r.withK k)).1
 have hbs:=zag (b:=w.heap.size) HB4.out xl (r.withK k)
 have hho:=zaT HO4.out (b:=w.heap.size) HS1.out (r.withK k)
 simp only[RPt.withK]at hs hbs hho
 generalize (xC V4 w.heap.size (xK k r):World)=W5 at*
 obtain⟨s0_,s1_,s2_,s3_,s4_,s5_,s6_,s7_,s8_,s9_,s10_⟩:=hs
 exact bodyPost_ret (v:=.tuple #[.agg (xK k r),xI ((p:Int)+(m:Int)),xI 0]) (by simp[results,Tryz.results55,go_sem,s0_,s1_,s2_,s3_,s4_,s5_,s6_,s7_,s8_,s9_,s10_]) rfl ⟨by rw[HN.out];exact⟨r.withK k,rfl,hho.mono (Nat.le_of_lt HS1.out)⟩,hbs⟩
theorem zph (v:Value)(xs:List Int)(q k n:Int)(w:World)(hv:Bs w v xs)(hq:0≤q∧q≤xs.length)(hn:0≤n∧n≤65535)(h7:1≤xs.length)(hl:¬(xs.length:Int)-q<n)(hk:k=2):Calls Tryz.prog 55 #[v,xI q,xI k,xI n] w (RetG w (zbp xs q k n) (q+n)):=by
 obtain⟨a,l,c,rfl⟩:=zal hv
 obtain⟨rfl,hlc⟩:=za0 hv
 have hsw:IntKind.i64.wrap ((xs.length:Int)-q)=(xs.length:Int)-q:=by rw[IntKind.wrap_i64];have:=hv.2.1;omega
 have OR:Hid (OwnT (w.alloc (.cells xL 50)) w.heap.size (⟨0,0,none,0,0,0,none,0,0,none,0,0,0,0,0,0,⟨#[]⟩⟩:RPt)):=zac w (⟨0,0,none,0,0,0,none,0,0,none,0,0,0,0,0,0,⟨#[]⟩⟩:RPt) 50 w.heap.size rfl
 have HB:Hid (Below w.heap.size w (w.alloc (.cells xL 50))):=xr.alloc xl _
 have HS0:Hid ((w.alloc (.cells xL 50)).heap.size=w.heap.size+1):=by show _=_;simp
 have HV:=xh (zaa hv HB.out)
 obtain⟨V0,hV0⟩:∃V0,w.alloc (.cells xL 50)=V0:=⟨_,rfl⟩
 rw[hV0]at OR HB HV HS0
 have HV0:=xh hV0
 clear hV0
 have k2':decide ((xs.length:Int)-q<n)=false:=decide_eq_false hl
 have hO:zbp xs q k n=zaE k ((xs.drop q.toNat).take n.toNat):=if_neg hl
 obtain⟨p,rfl⟩:∃p:Nat,q=p:=⟨q.toNat,by omega⟩
 obtain⟨m,rfl⟩:∃m:Nat,n=m:=⟨n.toNat,by omega⟩
 rw[Int.toNat_natCast,Int.toNat_natCast]at hO
 have HO:=xh hO
 have HK:=xh hk
 have hpk:p+m≤xs.length:=by omega
 obtain⟨b,o,rfl,hcap⟩:∃b o,a=some ⟨b,o,none⟩∧xs.length≤c:=by
  obtain⟨_,_,⟨a',c',h1,_,rfl⟩|⟨b,o,c',h1,h2,_⟩⟩:=hv
  ·simp at h7
  ·simp only[Value.slice.injEq,true_and]at h1;exact⟨b,o,h1.1,by omega⟩
 have HW9:=xh (zcY HV.out p m hpk hcap)
 obtain⟨A9,hA9⟩:∃A9,(if c=p then(some ⟨b,o,none⟩:Option Addr)else some ⟨b,o+p,none⟩)=A9:=⟨_,rfl⟩
 rw[hA9]at HW9
 obtain⟨ys,hys⟩:∃ys,(xs.drop p).take m=ys:=⟨_,rfl⟩
 have HYL:Hid (ys.length=m):=by show _=_;rw[←hys,List.length_take,List.length_drop];omega
 rw[hys]at HO HW9
 clear hys hO
 have hwk:IntKind.i64.wrap ((p:Int)+(m:Int))=(p:Int)+(m:Int):=by rw[IntKind.wrap_i64];have:=hv.2.1;omega
 have hs0:(0:Int)≤(p:Int):=Int.natCast_nonneg _
 have hs1:(p:Int)≤(p:Int)+(m:Int):=by omega
 have hs2:(p:Int)+(m:Int)≤(c:Int):=by omega
 have hs3:((p:Int)).toNat=p:=Int.toNat_natCast p
 have hs4:((p:Int)+(m:Int)).toNat=p+m:=by omega
 have hs5:p+m-p=m:=by omega
 have cS:=zdp A9 m (c-p) V0
 have hL:(Instr.lookup 124 (.map (some (V0.heap.size+1))) (xI k) true).run Tryz.prog ((V0.alloc (.cells #[.slice A9 m (c-p)] 26)).alloc (.map (ent4 (xW 90 V0.heap.size) (xW 92 V0.heap.size) (xW 94 V0.heap.size) (xW 96 V0.heap.size)) 4))=.ok (.tuple #[(xW 92 V0.heap.size),.bool true]) ((V0.alloc (.cells #[.slice A9 m (c-p)] 26)).alloc (.map (ent4 (xW 90 V0.heap.size) (xW 92 V0.heap.size) (xW 94 V0.heap.size) (xW 96 V0.heap.size)) 4)):=zbH zcm zct _ (ent4 (xW 90 V0.heap.size) (xW 92 V0.heap.size) (xW 94 V0.heap.size) (xW 96 V0.heap.size)) 4 k _ (V0.heap.size+1) 1 (zb7 _ _ _ (by simp)) (by rw[hk];exact zpc _ _ _ _)
 have HBA:Hid (Below V0.heap.size V0 ((V0.alloc (.cells #[.slice A9 m (c-p)] 26)).alloc (.map (ent4 (xW 90 V0.heap.size) (xW 92 V0.heap.size) (xW 94 V0.heap.size) (xW 96 V0.heap.size)) 4))):=((Below.refl _ V0).alloc xl _).alloc (by simp) _
 have HCB:Hid ((((V0.alloc (.cells #[.slice A9 m (c-p)] 26)).alloc (.map (ent4 (xW 90 V0.heap.size) (xW 92 V0.heap.size) (xW 94 V0.heap.size) (xW 96 V0.heap.size)) 4))).cell? (V0.heap.size,0)=some (.slice A9 m (c-p))):=by show _=_;simp
 have HB1:=xh (HB.out.trans (HBA.out.mono HB.out.size))
 have OR1:=xh (OR.out.below HBA.out)
 have HW1:=xh (zaa HW9.out HBA.out)
 have HS1:Hid (w.heap.size<(((V0.alloc (.cells #[.slice A9 m (c-p)] 26)).alloc (.map (ent4 (xW 90 V0.heap.size) (xW 92 V0.heap.size) (xW 94 V0.heap.size) (xW 96 V0.heap.size)) 4))).heap.size):=OR1.out.lt
 clear hv hq hn hl hk h7 hpk hcap hlc HV HW9 OR
 go_enter Tryz.func55,Tryz.ntmps55
 go_upto_region 1 with (fail)
 rw[HV0.out]
 clear HV0
 go_wp2_with fail
 refine cS.mono ?_
 rintro e w9 ⟨rfl,rfl⟩
 clear cS hA9
 have HRD:Hid (zaE k ys=if rcK 2 ys=0∧rcT 2 ys=m then some ((rcP 2 ys).withK k)else none):=by
  show _=_
  rw[HK.out,zlE (by decide),HYL.out]
 go_upto_region 6 with (fail)
 obtain⟨V1,hV1⟩:∃V1,((V0.alloc (.cells #[.slice A9 m (c-p)] 26)).alloc (.map (ent4 (xW 90 V0.heap.size) (xW 92 V0.heap.size) (xW 94 V0.heap.size) (xW 96 V0.heap.size)) 4))=V1:=⟨_,rfl⟩
 rw[hV1]at HB1 OR1 HW1 HCB HS1 ⊢
 clear hL hV1 HBA
 have cP:=gpc2 V0.heap.size _ ys V1 HCB.out HW1.out
 generalize rcT 2 ys=T9 at*
 generalize rcK 2 ys=K9 at*
 generalize rcP 2 ys=P9 at*
 go_wp2_with fail
 refine cP.mono ?_
 rintro e V2 ⟨⟨r,rfl,ho⟩,hb⟩
 have HB2:=xh (HB1.out.trans (hb.mono HB1.out.size))
 have OR2:=xh (OR1.out.below hb)
 have HOW:=xh ho
 clear hb ho cP HCB HW1
 have hal:=(Below.refl V2.heap.size V2).alloc xl (.cells (xR r) 50)
 have HB3:=xh (HB2.out.trans (hal.mono HB2.out.size))
 have OR3:=xh (OR2.out.below hal)
 have HO3:=xh (HOW.out.below hal)
 have HBV:=xh hal
 clear hal
 obtain⟨gv,hgv⟩:∃g,V2.heap.size=g:=⟨_,rfl⟩
 have OV:Hid (OwnT (V2.alloc (.cells (xR r) 50)) gv r):=zac V2 r 50 gv hgv.symm
 have HGV:Hid (w.heap.size<gv):=by rw[←hgv];exact OR2.out.lt
 have HGE:=xh hgv
 clear hgv
 go_upto_region 7 with (fail)
 rw[HGE.out]
 obtain⟨V3,hV3⟩:∃V3,V2.alloc (.cells (xR r) 50)=V3:=⟨_,rfl⟩
 rw[hV3]at HB3 OR3 HO3 OV HBV
 rw[hV3]
 clear hV3
 have hgn1:gv≠w.heap.size:=by have:=HGV.out;omega
 have hgn2:w.heap.size≠gv:=by have:=HGV.out;omega
 by_cases hK:K9=0
 rotate_left
 ·have hK':(K9 !=0)=true:=by simpa using hK
  have HN:Hid (zbp xs p k m=none):=by
   show _=_
   rw[HO.out,HRD.out];exact if_neg (fun h=>hK h.1)
  clear hK
  obtain⟨⟨u0,u1,u2,u3,u4,u5,u6,u7,u8,u9,u10⟩,uf⟩:=OR3.out
  go_wp2_with fail
  have hs:=(OR3.out.setall (⟨0,0,none,0,0,0,none,0,0,none,0,0,0,0,0,0,⟨#[]⟩⟩:RPt)).1
  have hbs:=zag (b:=w.heap.size) HB3.out xl (⟨0,0,none,0,0,0,none,0,0,none,0,0,0,0,0,0,⟨#[]⟩⟩:RPt)
  simp only at hs hbs
  generalize (xC V3 w.heap.size xL:World)=W5 at*
  obtain⟨s0_,s1_,s2_,s3_,s4_,s5_,s6_,s7_,s8_,s9_,s10_⟩:=hs
  exact bodyPost_ret (v:=.tuple #[.agg xL,xI (0),xI 4]) (by simp[results,Tryz.results55,go_sem,s0_,s1_,s2_,s3_,s4_,s5_,s6_,s7_,s8_,s9_,s10_]) rfl ⟨by rw[HN.out],hbs⟩
 have hK':(K9 !=0)=false:=by simpa using hK
 by_cases hT:T9=(m:Int)
 rotate_left
 ·have hT':(T9 !=(m:Int))=true:=by simpa using hT
  have HN:Hid (zbp xs p k m=none):=by
   show _=_
   rw[HO.out,HRD.out];exact if_neg (fun h=>hT h.2)
  clear hK hT
  obtain⟨⟨u0,u1,u2,u3,u4,u5,u6,u7,u8,u9,u10⟩,uf⟩:=OR3.out
  go_wp2_with fail
  have hs:=(OR3.out.setall (⟨0,0,none,0,0,0,none,0,0,none,0,0,0,0,0,0,⟨#[]⟩⟩:RPt)).1
  have hbs:=zag (b:=w.heap.size) HB3.out xl (⟨0,0,none,0,0,0,none,0,0,none,0,0,0,0,0,0,⟨#[]⟩⟩:RPt)
  simp only at hs hbs
  generalize (xC V3 w.heap.size xL:World)=W5 at*
  obtain⟨s0_,s1_,s2_,s3_,s4_,s5_,s6_,s7_,s8_,s9_,s10_⟩:=hs
  exact bodyPost_ret (v:=.tuple #[.agg xL,xI (0),xI 4]) (by simp[results,Tryz.results55,go_sem,s0_,s1_,s2_,s3_,s4_,s5_,s6_,s7_,s8_,s9_,s10_]) rfl ⟨by rw[HN.out],hbs⟩
 have hT':(T9 !=(m:Int))=false:=by simpa using hT
 have HN:Hid (zbp xs p k m=some (P9.withK k)):=by
  show _=_
  rw[HO.out,HRD.out];exact if_pos ⟨hK,hT⟩
 clear hK hT
 have OV4:=xh (OV.out.set0 k)
 have HBV4:Hid (Below V2.heap.size V2 (V3.setCell (xQ gv 0) (xI k))):=HBV.out.setCell (p:=xQ gv 0) (Nat.le_of_eq HGE.out) _
 have HB4:Hid (Below w.heap.size w (V3.setCell (xQ gv 0) (xI k))):=HB3.out.setCell (p:=xQ gv 0) (Nat.le_of_lt HGV.out) _
 have OR4:=xh (OR2.out.below HBV4.out)
 have HO4:=xh ((HOW.out.withK k).below HBV4.out)
 obtain⟨⟨v0,v1,v2,v3,v4,v5,v6,v7,v8,v9,v10⟩,vf⟩:=OV.out
 go_upto_region 10 with (fail)
 clear v0 v1 v2 v3 v4 v5 v6 v7 v8 v9 v10 vf
 obtain⟨V4,hV4⟩:∃V4,V3.setCell (xQ gv 0) (xI k)=V4:=⟨_,rfl⟩
 rw[hV4]at OV4 HBV4 HB4 OR4 HO4 ⊢
 clear hV4
 obtain⟨⟨u0,u1,u2,u3,u4,u5,u6,u7,u8,u9,u10⟩,uf⟩:=OR4.out
 obtain⟨⟨v0,v1,v2,v3,v4,v5,v6,v7,v8,v9,v10⟩,vf⟩:=OV4.out
 simp only[RPt.withK]at v0 v1 v2 v3 v4 v5 v6 v7 v8 v9 v10
 go_wp2_with fail
 have hs:=(OR4.out.setall (r.withK k)).1
 have hbs:=zag (b:=w.heap.size) HB4.out xl (r.withK k)
 have hho:=zaT HO4.out (b:=w.heap.size) HS1.out (r.withK k)
 simp only[RPt.withK]at hs hbs hho
 generalize (xC V4 w.heap.size (xK k r):World)=W5 at*
 obtain⟨s0_,s1_,s2_,s3_,s4_,s5_,s6_,s7_,s8_,s9_,s10_⟩:=hs
 exact bodyPost_ret (v:=.tuple #[.agg (xK k r),xI ((p:Int)+(m:Int)),xI 0]) (by simp[results,Tryz.results55,go_sem,s0_,s1_,s2_,s3_,s4_,s5_,s6_,s7_,s8_,s9_,s10_]) rfl ⟨by rw[HN.out];exact⟨r.withK k,rfl,hho.mono (Nat.le_of_lt HS1.out)⟩,hbs⟩
theorem zpl (v:Value)(xs:List Int)(q k n:Int)(w:World)(hv:Bs w v xs)(hq:0≤q∧q≤xs.length)(hn:0≤n∧n≤65535)(h7:1≤xs.length)(hl:¬(xs.length:Int)-q<n)(hk:k=3):Calls Tryz.prog 55 #[v,xI q,xI k,xI n] w (RetG w (zbp xs q k n) (q+n)):=by
 obtain⟨a,l,c,rfl⟩:=zal hv
 obtain⟨rfl,hlc⟩:=za0 hv
 have hsw:IntKind.i64.wrap ((xs.length:Int)-q)=(xs.length:Int)-q:=by rw[IntKind.wrap_i64];have:=hv.2.1;omega
 have OR:Hid (OwnT (w.alloc (.cells xL 50)) w.heap.size (⟨0,0,none,0,0,0,none,0,0,none,0,0,0,0,0,0,⟨#[]⟩⟩:RPt)):=zac w (⟨0,0,none,0,0,0,none,0,0,none,0,0,0,0,0,0,⟨#[]⟩⟩:RPt) 50 w.heap.size rfl
 have HB:Hid (Below w.heap.size w (w.alloc (.cells xL 50))):=xr.alloc xl _
 have HS0:Hid ((w.alloc (.cells xL 50)).heap.size=w.heap.size+1):=by show _=_;simp
 have HV:=xh (zaa hv HB.out)
 obtain⟨V0,hV0⟩:∃V0,w.alloc (.cells xL 50)=V0:=⟨_,rfl⟩
 rw[hV0]at OR HB HV HS0
 have HV0:=xh hV0
 clear hV0
 have k2':decide ((xs.length:Int)-q<n)=false:=decide_eq_false hl
 have hO:zbp xs q k n=zaE k ((xs.drop q.toNat).take n.toNat):=if_neg hl
 obtain⟨p,rfl⟩:∃p:Nat,q=p:=⟨q.toNat,by omega⟩
 obtain⟨m,rfl⟩:∃m:Nat,n=m:=⟨n.toNat,by omega⟩
 rw[Int.toNat_natCast,Int.toNat_natCast]at hO
 have HO:=xh hO
 have HK:=xh hk
 have hpk:p+m≤xs.length:=by omega
 obtain⟨b,o,rfl,hcap⟩:∃b o,a=some ⟨b,o,none⟩∧xs.length≤c:=by
  obtain⟨_,_,⟨a',c',h1,_,rfl⟩|⟨b,o,c',h1,h2,_⟩⟩:=hv
  ·simp at h7
  ·simp only[Value.slice.injEq,true_and]at h1;exact⟨b,o,h1.1,by omega⟩
 have HW9:=xh (zcY HV.out p m hpk hcap)
 obtain⟨A9,hA9⟩:∃A9,(if c=p then(some ⟨b,o,none⟩:Option Addr)else some ⟨b,o+p,none⟩)=A9:=⟨_,rfl⟩
 rw[hA9]at HW9
 obtain⟨ys,hys⟩:∃ys,(xs.drop p).take m=ys:=⟨_,rfl⟩
 have HYL:Hid (ys.length=m):=by show _=_;rw[←hys,List.length_take,List.length_drop];omega
 rw[hys]at HO HW9
 clear hys hO
 have hwk:IntKind.i64.wrap ((p:Int)+(m:Int))=(p:Int)+(m:Int):=by rw[IntKind.wrap_i64];have:=hv.2.1;omega
 have hs0:(0:Int)≤(p:Int):=Int.natCast_nonneg _
 have hs1:(p:Int)≤(p:Int)+(m:Int):=by omega
 have hs2:(p:Int)+(m:Int)≤(c:Int):=by omega
 have hs3:((p:Int)).toNat=p:=Int.toNat_natCast p
 have hs4:((p:Int)+(m:Int)).toNat=p+m:=by omega
 have hs5:p+m-p=m:=by omega
 have cS:=zdp A9 m (c-p) V0
 have hL:(Instr.lookup 124 (.map (some (V0.heap.size+1))) (xI k) true).run Tryz.prog ((V0.alloc (.cells #[.slice A9 m (c-p)] 26)).alloc (.map (ent4 (xW 90 V0.heap.size) (xW 92 V0.heap.size) (xW 94 V0.heap.size) (xW 96 V0.heap.size)) 4))=.ok (.tuple #[(xW 94 V0.heap.size),.bool true]) ((V0.alloc (.cells #[.slice A9 m (c-p)] 26)).alloc (.map (ent4 (xW 90 V0.heap.size) (xW 92 V0.heap.size) (xW 94 V0.heap.size) (xW 96 V0.heap.size)) 4)):=zbH zcm zct _ (ent4 (xW 90 V0.heap.size) (xW 92 V0.heap.size) (xW 94 V0.heap.size) (xW 96 V0.heap.size)) 4 k _ (V0.heap.size+1) 2 (zb7 _ _ _ (by simp)) (by rw[hk];exact zpi _ _ _ _)
 have HBA:Hid (Below V0.heap.size V0 ((V0.alloc (.cells #[.slice A9 m (c-p)] 26)).alloc (.map (ent4 (xW 90 V0.heap.size) (xW 92 V0.heap.size) (xW 94 V0.heap.size) (xW 96 V0.heap.size)) 4))):=((Below.refl _ V0).alloc xl _).alloc (by simp) _
 have HCB:Hid ((((V0.alloc (.cells #[.slice A9 m (c-p)] 26)).alloc (.map (ent4 (xW 90 V0.heap.size) (xW 92 V0.heap.size) (xW 94 V0.heap.size) (xW 96 V0.heap.size)) 4))).cell? (V0.heap.size,0)=some (.slice A9 m (c-p))):=by show _=_;simp
 have HB1:=xh (HB.out.trans (HBA.out.mono HB.out.size))
 have OR1:=xh (OR.out.below HBA.out)
 have HW1:=xh (zaa HW9.out HBA.out)
 have HS1:Hid (w.heap.size<(((V0.alloc (.cells #[.slice A9 m (c-p)] 26)).alloc (.map (ent4 (xW 90 V0.heap.size) (xW 92 V0.heap.size) (xW 94 V0.heap.size) (xW 96 V0.heap.size)) 4))).heap.size):=OR1.out.lt
 clear hv hq hn hl hk h7 hpk hcap hlc HV HW9 OR
 go_enter Tryz.func55,Tryz.ntmps55
 go_upto_region 1 with (fail)
 rw[HV0.out]
 clear HV0
 go_wp2_with fail
 refine cS.mono ?_
 rintro e w9 ⟨rfl,rfl⟩
 clear cS hA9
 have HRD:Hid (zaE k ys=if rcK 3 ys=0∧rcT 3 ys=m then some ((rcP 3 ys).withK k)else none):=by
  show _=_
  rw[HK.out,zlE (by decide),HYL.out]
 go_upto_region 6 with (fail)
 obtain⟨V1,hV1⟩:∃V1,((V0.alloc (.cells #[.slice A9 m (c-p)] 26)).alloc (.map (ent4 (xW 90 V0.heap.size) (xW 92 V0.heap.size) (xW 94 V0.heap.size) (xW 96 V0.heap.size)) 4))=V1:=⟨_,rfl⟩
 rw[hV1]at HB1 OR1 HW1 HCB HS1 ⊢
 clear hL hV1 HBA
 have cP:=gpc3 V0.heap.size _ ys V1 HCB.out HW1.out
 generalize rcT 3 ys=T9 at*
 generalize rcK 3 ys=K9 at*
 generalize rcP 3 ys=P9 at*
 go_wp2_with fail
 refine cP.mono ?_
 rintro e V2 ⟨⟨r,rfl,ho⟩,hb⟩
 have HB2:=xh (HB1.out.trans (hb.mono HB1.out.size))
 have OR2:=xh (OR1.out.below hb)
 have HOW:=xh ho
 clear hb ho cP HCB HW1
 have hal:=(Below.refl V2.heap.size V2).alloc xl (.cells (xR r) 50)
 have HB3:=xh (HB2.out.trans (hal.mono HB2.out.size))
 have OR3:=xh (OR2.out.below hal)
 have HO3:=xh (HOW.out.below hal)
 have HBV:=xh hal
 clear hal
 obtain⟨gv,hgv⟩:∃g,V2.heap.size=g:=⟨_,rfl⟩
 have OV:Hid (OwnT (V2.alloc (.cells (xR r) 50)) gv r):=zac V2 r 50 gv hgv.symm
 have HGV:Hid (w.heap.size<gv):=by rw[←hgv];exact OR2.out.lt
 have HGE:=xh hgv
 clear hgv
 go_upto_region 7 with (fail)
 rw[HGE.out]
 obtain⟨V3,hV3⟩:∃V3,V2.alloc (.cells (xR r) 50)=V3:=⟨_,rfl⟩
 rw[hV3]at HB3 OR3 HO3 OV HBV
 rw[hV3]
 clear hV3
 have hgn1:gv≠w.heap.size:=by have:=HGV.out;omega
 have hgn2:w.heap.size≠gv:=by have:=HGV.out;omega
 by_cases hK:K9=0
 rotate_left
 ·have hK':(K9 !=0)=true:=by simpa using hK
  have HN:Hid (zbp xs p k m=none):=by
   show _=_
   rw[HO.out,HRD.out];exact if_neg (fun h=>hK h.1)
  clear hK
  obtain⟨⟨u0,u1,u2,u3,u4,u5,u6,u7,u8,u9,u10⟩,uf⟩:=OR3.out
  go_wp2_with fail
  have hs:=(OR3.out.setall (⟨0,0,none,0,0,0,none,0,0,none,0,0,0,0,0,0,⟨#[]⟩⟩:RPt)).1
  have hbs:=zag (b:=w.heap.size) HB3.out xl (⟨0,0,none,0,0,0,none,0,0,none,0,0,0,0,0,0,⟨#[]⟩⟩:RPt)
  simp only at hs hbs
  generalize (xC V3 w.heap.size xL:World)=W5 at*
  obtain⟨s0_,s1_,s2_,s3_,s4_,s5_,s6_,s7_,s8_,s9_,s10_⟩:=hs
  exact bodyPost_ret (v:=.tuple #[.agg xL,xI (0),xI 4]) (by simp[results,Tryz.results55,go_sem,s0_,s1_,s2_,s3_,s4_,s5_,s6_,s7_,s8_,s9_,s10_]) rfl ⟨by rw[HN.out],hbs⟩
 have hK':(K9 !=0)=false:=by simpa using hK
 by_cases hT:T9=(m:Int)
 rotate_left
 ·have hT':(T9 !=(m:Int))=true:=by simpa using hT
  have HN:Hid (zbp xs p k m=none):=by
   show _=_
   rw[HO.out,HRD.out];exact if_neg (fun h=>hT h.2)
  clear hK hT
  obtain⟨⟨u0,u1,u2,u3,u4,u5,u6,u7,u8,u9,u10⟩,uf⟩:=OR3.out
  go_wp2_with fail
  have hs:=(OR3.out.setall (⟨0,0,none,0,0,0,none,0,0,none,0,0,0,0,0,0,⟨#[]⟩⟩:RPt)).1
  have hbs:=zag (b:=w.heap.size) HB3.out xl (⟨0,0,none,0,0,0,none,0,0,none,0,0,0,0,0,0,⟨#[]⟩⟩:RPt)
  simp only at hs hbs
  generalize (xC V3 w.heap.size xL:World)=W5 at*
  obtain⟨s0_,s1_,s2_,s3_,s4_,s5_,s6_,s7_,s8_,s9_,s10_⟩:=hs
  exact bodyPost_ret (v:=.tuple #[.agg xL,xI (0),xI 4]) (by simp[results,Tryz.results55,go_sem,s0_,s1_,s2_,s3_,s4_,s5_,s6_,s7_,s8_,s9_,s10_]) rfl ⟨by rw[HN.out],hbs⟩
 have hT':(T9 !=(m:Int))=false:=by simpa using hT
 have HN:Hid (zbp xs p k m=some (P9.withK k)):=by
  show _=_
  rw[HO.out,HRD.out];exact if_pos ⟨hK,hT⟩
 clear hK hT
 have OV4:=xh (OV.out.set0 k)
 have HBV4:Hid (Below V2.heap.size V2 (V3.setCell (xQ gv 0) (xI k))):=HBV.out.setCell (p:=xQ gv 0) (Nat.le_of_eq HGE.out) _
 have HB4:Hid (Below w.heap.size w (V3.setCell (xQ gv 0) (xI k))):=HB3.out.setCell (p:=xQ gv 0) (Nat.le_of_lt HGV.out) _
 have OR4:=xh (OR2.out.below HBV4.out)
 have HO4:=xh ((HOW.out.withK k).below HBV4.out)
 obtain⟨⟨v0,v1,v2,v3,v4,v5,v6,v7,v8,v9,v10⟩,vf⟩:=OV.out
 go_upto_region 10 with (fail)
 clear v0 v1 v2 v3 v4 v5 v6 v7 v8 v9 v10 vf
 obtain⟨V4,hV4⟩:∃V4,V3.setCell (xQ gv 0) (xI k)=V4:=⟨_,rfl⟩
 rw[hV4]at OV4 HBV4 HB4 OR4 HO4 ⊢
 clear hV4
 obtain⟨⟨u0,u1,u2,u3,u4,u5,u6,u7,u8,u9,u10⟩,uf⟩:=OR4.out
 obtain⟨⟨v0,v1,v2,v3,v4,v5,v6,v7,v8,v9,v10⟩,vf⟩:=OV4.out
 simp only[RPt.withK]at v0 v1 v2 v3 v4 v5 v6 v7 v8 v9 v10
 go_wp2_with fail
 have hs:=(OR4.out.setall (r.withK k)).1
 have hbs:=zag (b:=w.heap.size) HB4.out xl (r.withK k)
 have hho:=zaT HO4.out (b:=w.heap.size) HS1.out (r.withK k)
 simp only[RPt.withK]at hs hbs hho
 generalize (xC V4 w.heap.size (xK k r):World)=W5 at*
 obtain⟨s0_,s1_,s2_,s3_,s4_,s5_,s6_,s7_,s8_,s9_,s10_⟩:=hs
 exact bodyPost_ret (v:=.tuple #[.agg (xK k r),xI ((p:Int)+(m:Int)),xI 0]) (by simp[results,Tryz.results55,go_sem,s0_,s1_,s2_,s3_,s4_,s5_,s6_,s7_,s8_,s9_,s10_]) rfl ⟨by rw[HN.out];exact⟨r.withK k,rfl,hho.mono (Nat.le_of_lt HS1.out)⟩,hbs⟩
theorem zo9 (v:Value)(xs:List Int)(q k n:Int)(w:World)(hv:Bs w v xs)(hq:0≤q∧q≤xs.length)(hn:0≤n∧n≤65535)(h7:1≤xs.length)(hl:¬(xs.length:Int)-q<n)(hk:k=4):Calls Tryz.prog 55 #[v,xI q,xI k,xI n] w (RetG w (zbp xs q k n) (q+n)):=by
 obtain⟨a,l,c,rfl⟩:=zal hv
 obtain⟨rfl,hlc⟩:=za0 hv
 have hsw:IntKind.i64.wrap ((xs.length:Int)-q)=(xs.length:Int)-q:=by rw[IntKind.wrap_i64];have:=hv.2.1;omega
 have OR:Hid (OwnT (w.alloc (.cells xL 50)) w.heap.size (⟨0,0,none,0,0,0,none,0,0,none,0,0,0,0,0,0,⟨#[]⟩⟩:RPt)):=zac w (⟨0,0,none,0,0,0,none,0,0,none,0,0,0,0,0,0,⟨#[]⟩⟩:RPt) 50 w.heap.size rfl
 have HB:Hid (Below w.heap.size w (w.alloc (.cells xL 50))):=xr.alloc xl _
 have HS0:Hid ((w.alloc (.cells xL 50)).heap.size=w.heap.size+1):=by show _=_;simp
 have HV:=xh (zaa hv HB.out)
 obtain⟨V0,hV0⟩:∃V0,w.alloc (.cells xL 50)=V0:=⟨_,rfl⟩
 rw[hV0]at OR HB HV HS0
 have HV0:=xh hV0
 clear hV0
 have k2':decide ((xs.length:Int)-q<n)=false:=decide_eq_false hl
 have hO:zbp xs q k n=zaE k ((xs.drop q.toNat).take n.toNat):=if_neg hl
 obtain⟨p,rfl⟩:∃p:Nat,q=p:=⟨q.toNat,by omega⟩
 obtain⟨m,rfl⟩:∃m:Nat,n=m:=⟨n.toNat,by omega⟩
 rw[Int.toNat_natCast,Int.toNat_natCast]at hO
 have HO:=xh hO
 have HK:=xh hk
 have hpk:p+m≤xs.length:=by omega
 obtain⟨b,o,rfl,hcap⟩:∃b o,a=some ⟨b,o,none⟩∧xs.length≤c:=by
  obtain⟨_,_,⟨a',c',h1,_,rfl⟩|⟨b,o,c',h1,h2,_⟩⟩:=hv
  ·simp at h7
  ·simp only[Value.slice.injEq,true_and]at h1;exact⟨b,o,h1.1,by omega⟩
 have HW9:=xh (zcY HV.out p m hpk hcap)
 obtain⟨A9,hA9⟩:∃A9,(if c=p then(some ⟨b,o,none⟩:Option Addr)else some ⟨b,o+p,none⟩)=A9:=⟨_,rfl⟩
 rw[hA9]at HW9
 obtain⟨ys,hys⟩:∃ys,(xs.drop p).take m=ys:=⟨_,rfl⟩
 have HYL:Hid (ys.length=m):=by show _=_;rw[←hys,List.length_take,List.length_drop];omega
 rw[hys]at HO HW9
 clear hys hO
 have hwk:IntKind.i64.wrap ((p:Int)+(m:Int))=(p:Int)+(m:Int):=by rw[IntKind.wrap_i64];have:=hv.2.1;omega
 have hs0:(0:Int)≤(p:Int):=Int.natCast_nonneg _
 have hs1:(p:Int)≤(p:Int)+(m:Int):=by omega
 have hs2:(p:Int)+(m:Int)≤(c:Int):=by omega
 have hs3:((p:Int)).toNat=p:=Int.toNat_natCast p
 have hs4:((p:Int)+(m:Int)).toNat=p+m:=by omega
 have hs5:p+m-p=m:=by omega
 have cS:=zdp A9 m (c-p) V0
 have hL:(Instr.lookup 124 (.map (some (V0.heap.size+1))) (xI k) true).run Tryz.prog ((V0.alloc (.cells #[.slice A9 m (c-p)] 26)).alloc (.map (ent4 (xW 90 V0.heap.size) (xW 92 V0.heap.size) (xW 94 V0.heap.size) (xW 96 V0.heap.size)) 4))=.ok (.tuple #[(xW 96 V0.heap.size),.bool true]) ((V0.alloc (.cells #[.slice A9 m (c-p)] 26)).alloc (.map (ent4 (xW 90 V0.heap.size) (xW 92 V0.heap.size) (xW 94 V0.heap.size) (xW 96 V0.heap.size)) 4)):=zbH zcm zct _ (ent4 (xW 90 V0.heap.size) (xW 92 V0.heap.size) (xW 94 V0.heap.size) (xW 96 V0.heap.size)) 4 k _ (V0.heap.size+1) 3 (zb7 _ _ _ (by simp)) (by rw[hk];exact zo7 _ _ _ _)
 have HBA:Hid (Below V0.heap.size V0 ((V0.alloc (.cells #[.slice A9 m (c-p)] 26)).alloc (.map (ent4 (xW 90 V0.heap.size) (xW 92 V0.heap.size) (xW 94 V0.heap.size) (xW 96 V0.heap.size)) 4))):=((Below.refl _ V0).alloc xl _).alloc (by simp) _
 have HCB:Hid ((((V0.alloc (.cells #[.slice A9 m (c-p)] 26)).alloc (.map (ent4 (xW 90 V0.heap.size) (xW 92 V0.heap.size) (xW 94 V0.heap.size) (xW 96 V0.heap.size)) 4))).cell? (V0.heap.size,0)=some (.slice A9 m (c-p))):=by show _=_;simp
 have HB1:=xh (HB.out.trans (HBA.out.mono HB.out.size))
 have OR1:=xh (OR.out.below HBA.out)
 have HW1:=xh (zaa HW9.out HBA.out)
 have HS1:Hid (w.heap.size<(((V0.alloc (.cells #[.slice A9 m (c-p)] 26)).alloc (.map (ent4 (xW 90 V0.heap.size) (xW 92 V0.heap.size) (xW 94 V0.heap.size) (xW 96 V0.heap.size)) 4))).heap.size):=OR1.out.lt
 clear hv hq hn hl hk h7 hpk hcap hlc HV HW9 OR
 go_enter Tryz.func55,Tryz.ntmps55
 go_upto_region 1 with (fail)
 rw[HV0.out]
 clear HV0
 go_wp2_with fail
 refine cS.mono ?_
 rintro e w9 ⟨rfl,rfl⟩
 clear cS hA9
 have HRD:Hid (zaE k ys=if rcK 4 ys=0∧rcT 4 ys=m then some ((rcP 4 ys).withK k)else none):=by
  show _=_
  rw[HK.out,zlE (by decide),HYL.out]
 go_upto_region 6 with (fail)
 obtain⟨V1,hV1⟩:∃V1,((V0.alloc (.cells #[.slice A9 m (c-p)] 26)).alloc (.map (ent4 (xW 90 V0.heap.size) (xW 92 V0.heap.size) (xW 94 V0.heap.size) (xW 96 V0.heap.size)) 4))=V1:=⟨_,rfl⟩
 rw[hV1]at HB1 OR1 HW1 HCB HS1 ⊢
 clear hL hV1 HBA
 have cP:=gpc4 V0.heap.size _ ys V1 HCB.out HW1.out
 generalize rcT 4 ys=T9 at*
 generalize rcK 4 ys=K9 at*
 generalize rcP 4 ys=P9 at*
 go_wp2_with fail
 refine cP.mono ?_
 rintro e V2 ⟨⟨r,rfl,ho⟩,hb⟩
 have HB2:=xh (HB1.out.trans (hb.mono HB1.out.size))
 have OR2:=xh (OR1.out.below hb)
 have HOW:=xh ho
 clear hb ho cP HCB HW1
 have hal:=(Below.refl V2.heap.size V2).alloc xl (.cells (xR r) 50)
 have HB3:=xh (HB2.out.trans (hal.mono HB2.out.size))
 have OR3:=xh (OR2.out.below hal)
 have HO3:=xh (HOW.out.below hal)
 have HBV:=xh hal
 clear hal
 obtain⟨gv,hgv⟩:∃g,V2.heap.size=g:=⟨_,rfl⟩
 have OV:Hid (OwnT (V2.alloc (.cells (xR r) 50)) gv r):=zac V2 r 50 gv hgv.symm
 have HGV:Hid (w.heap.size<gv):=by rw[←hgv];exact OR2.out.lt
 have HGE:=xh hgv
 clear hgv
 go_upto_region 7 with (fail)
 rw[HGE.out]
 obtain⟨V3,hV3⟩:∃V3,V2.alloc (.cells (xR r) 50)=V3:=⟨_,rfl⟩
 rw[hV3]at HB3 OR3 HO3 OV HBV
 rw[hV3]
 clear hV3
 have hgn1:gv≠w.heap.size:=by have:=HGV.out;omega
 have hgn2:w.heap.size≠gv:=by have:=HGV.out;omega
 by_cases hK:K9=0
 rotate_left
 ·have hK':(K9 !=0)=true:=by simpa using hK
  have HN:Hid (zbp xs p k m=none):=by
   show _=_
   rw[HO.out,HRD.out];exact if_neg (fun h=>hK h.1)
  clear hK
  obtain⟨⟨u0,u1,u2,u3,u4,u5,u6,u7,u8,u9,u10⟩,uf⟩:=OR3.out
  go_wp2_with fail
  have hs:=(OR3.out.setall (⟨0,0,none,0,0,0,none,0,0,none,0,0,0,0,0,0,⟨#[]⟩⟩:RPt)).1
  have hbs:=zag (b:=w.heap.size) HB3.out xl (⟨0,0,none,0,0,0,none,0,0,none,0,0,0,0,0,0,⟨#[]⟩⟩:RPt)
  simp only at hs hbs
  generalize (xC V3 w.heap.size xL:World)=W5 at*
  obtain⟨s0_,s1_,s2_,s3_,s4_,s5_,s6_,s7_,s8_,s9_,s10_⟩:=hs
  exact bodyPost_ret (v:=.tuple #[.agg xL,xI (0),xI 4]) (by simp[results,Tryz.results55,go_sem,s0_,s1_,s2_,s3_,s4_,s5_,s6_,s7_,s8_,s9_,s10_]) rfl ⟨by rw[HN.out],hbs⟩
 have hK':(K9 !=0)=false:=by simpa using hK
 by_cases hT:T9=(m:Int)
 rotate_left
 ·have hT':(T9 !=(m:Int))=true:=by simpa using hT
  have HN:Hid (zbp xs p k m=none):=by
   show _=_
   rw[HO.out,HRD.out];exact if_neg (fun h=>hT h.2)
  clear hK hT
  obtain⟨⟨u0,u1,u2,u3,u4,u5,u6,u7,u8,u9,u10⟩,uf⟩:=OR3.out
  go_wp2_with fail
  have hs:=(OR3.out.setall (⟨0,0,none,0,0,0,none,0,0,none,0,0,0,0,0,0,⟨#[]⟩⟩:RPt)).1
  have hbs:=zag (b:=w.heap.size) HB3.out xl (⟨0,0,none,0,0,0,none,0,0,none,0,0,0,0,0,0,⟨#[]⟩⟩:RPt)
  simp only at hs hbs
  generalize (xC V3 w.heap.size xL:World)=W5 at*
  obtain⟨s0_,s1_,s2_,s3_,s4_,s5_,s6_,s7_,s8_,s9_,s10_⟩:=hs
  exact bodyPost_ret (v:=.tuple #[.agg xL,xI (0),xI 4]) (by simp[results,Tryz.results55,go_sem,s0_,s1_,s2_,s3_,s4_,s5_,s6_,s7_,s8_,s9_,s10_]) rfl ⟨by rw[HN.out],hbs⟩
 have hT':(T9 !=(m:Int))=false:=by simpa using hT
 have HN:Hid (zbp xs p k m=some (P9.withK k)):=by
  show _=_
  rw[HO.out,HRD.out];exact if_pos ⟨hK,hT⟩
 clear hK hT
 have OV4:=xh (OV.out.set0 k)
 have HBV4:Hid (Below V2.heap.size V2 (V3.setCell (xQ gv 0) (xI k))):=HBV.out.setCell (p:=xQ gv 0) (Nat.le_of_eq HGE.out) _
 have HB4:Hid (Below w.heap.size w (V3.setCell (xQ gv 0) (xI k))):=HB3.out.setCell (p:=xQ gv 0) (Nat.le_of_lt HGV.out) _
 have OR4:=xh (OR2.out.below HBV4.out)
 have HO4:=xh ((HOW.out.withK k).below HBV4.out)
 obtain⟨⟨v0,v1,v2,v3,v4,v5,v6,v7,v8,v9,v10⟩,vf⟩:=OV.out
 go_upto_region 10 with (fail)
 clear v0 v1 v2 v3 v4 v5 v6 v7 v8 v9 v10 vf
 obtain⟨V4,hV4⟩:∃V4,V3.setCell (xQ gv 0) (xI k)=V4:=⟨_,rfl⟩
 rw[hV4]at OV4 HBV4 HB4 OR4 HO4 ⊢
 clear hV4
 obtain⟨⟨u0,u1,u2,u3,u4,u5,u6,u7,u8,u9,u10⟩,uf⟩:=OR4.out
 obtain⟨⟨v0,v1,v2,v3,v4,v5,v6,v7,v8,v9,v10⟩,vf⟩:=OV4.out
 simp only[RPt.withK]at v0 v1 v2 v3 v4 v5 v6 v7 v8 v9 v10
 go_wp2_with fail
 have hs:=(OR4.out.setall (r.withK k)).1
 have hbs:=zag (b:=w.heap.size) HB4.out xl (r.withK k)
 have hho:=zaT HO4.out (b:=w.heap.size) HS1.out (r.withK k)
 simp only[RPt.withK]at hs hbs hho
 generalize (xC V4 w.heap.size (xK k r):World)=W5 at*
 obtain⟨s0_,s1_,s2_,s3_,s4_,s5_,s6_,s7_,s8_,s9_,s10_⟩:=hs
 exact bodyPost_ret (v:=.tuple #[.agg (xK k r),xI ((p:Int)+(m:Int)),xI 0]) (by simp[results,Tryz.results55,go_sem,s0_,s1_,s2_,s3_,s4_,s5_,s6_,s7_,s8_,s9_,s10_]) rfl ⟨by rw[HN.out];exact⟨r.withK k,rfl,hho.mono (Nat.le_of_lt HS1.out)⟩,hbs⟩
theorem zoU (v:Value)(xs:List Int)(q k n:Int)(w:World)(hv:Bs w v xs)(hq:0≤q∧q≤xs.length)(hn:0≤n∧n≤65535)(h7:1≤xs.length)(hl:¬(xs.length:Int)-q<n)(hk:k≠1∧k≠2∧k≠3∧k≠4):Calls Tryz.prog 55 #[v,xI q,xI k,xI n] w (RetG w (zbp xs q k n) (q+n)):=by
 obtain⟨a,l,c,rfl⟩:=zal hv
 obtain⟨rfl,hlc⟩:=za0 hv
 have hsw:IntKind.i64.wrap ((xs.length:Int)-q)=(xs.length:Int)-q:=by rw[IntKind.wrap_i64];have:=hv.2.1;omega
 have OR:Hid (OwnT (w.alloc (.cells xL 50)) w.heap.size (⟨0,0,none,0,0,0,none,0,0,none,0,0,0,0,0,0,⟨#[]⟩⟩:RPt)):=zac w (⟨0,0,none,0,0,0,none,0,0,none,0,0,0,0,0,0,⟨#[]⟩⟩:RPt) 50 w.heap.size rfl
 have HB:Hid (Below w.heap.size w (w.alloc (.cells xL 50))):=xr.alloc xl _
 have HS0:Hid ((w.alloc (.cells xL 50)).heap.size=w.heap.size+1):=by show _=_;simp
 have HV:=xh (zaa hv HB.out)
 obtain⟨V0,hV0⟩:∃V0,w.alloc (.cells xL 50)=V0:=⟨_,rfl⟩
 rw[hV0]at OR HB HV HS0
 have HV0:=xh hV0
 clear hV0
 have k2':decide ((xs.length:Int)-q<n)=false:=decide_eq_false hl
 have hO:zbp xs q k n=zaE k ((xs.drop q.toNat).take n.toNat):=if_neg hl
 obtain⟨p,rfl⟩:∃p:Nat,q=p:=⟨q.toNat,by omega⟩
 obtain⟨m,rfl⟩:∃m:Nat,n=m:=⟨n.toNat,by omega⟩
 rw[Int.toNat_natCast,Int.toNat_natCast]at hO
 have HO:=xh hO
 have HK:=xh hk
 have hpk:p+m≤xs.length:=by omega
 obtain⟨b,o,rfl,hcap⟩:∃b o,a=some ⟨b,o,none⟩∧xs.length≤c:=by
  obtain⟨_,_,⟨a',c',h1,_,rfl⟩|⟨b,o,c',h1,h2,_⟩⟩:=hv
  ·simp at h7
  ·simp only[Value.slice.injEq,true_and]at h1;exact⟨b,o,h1.1,by omega⟩
 have HW9:=xh (zcY HV.out p m hpk hcap)
 obtain⟨A9,hA9⟩:∃A9,(if c=p then(some ⟨b,o,none⟩:Option Addr)else some ⟨b,o+p,none⟩)=A9:=⟨_,rfl⟩
 rw[hA9]at HW9
 obtain⟨ys,hys⟩:∃ys,(xs.drop p).take m=ys:=⟨_,rfl⟩
 have HYL:Hid (ys.length=m):=by show _=_;rw[←hys,List.length_take,List.length_drop];omega
 rw[hys]at HO HW9
 clear hys hO
 have hwk:IntKind.i64.wrap ((p:Int)+(m:Int))=(p:Int)+(m:Int):=by rw[IntKind.wrap_i64];have:=hv.2.1;omega
 have hs0:(0:Int)≤(p:Int):=Int.natCast_nonneg _
 have hs1:(p:Int)≤(p:Int)+(m:Int):=by omega
 have hs2:(p:Int)+(m:Int)≤(c:Int):=by omega
 have hs3:((p:Int)).toNat=p:=Int.toNat_natCast p
 have hs4:((p:Int)+(m:Int)).toNat=p+m:=by omega
 have hs5:p+m-p=m:=by omega
 have cS:=zdp A9 m (c-p) V0
 have hL:(Instr.lookup 124 (.map (some (V0.heap.size+1))) (xI k) true).run Tryz.prog ((V0.alloc (.cells #[.slice A9 m (c-p)] 26)).alloc (.map (ent4 (xW 90 V0.heap.size) (xW 92 V0.heap.size) (xW 94 V0.heap.size) (xW 96 V0.heap.size)) 4))=.ok (.tuple #[.nilFunc,.bool false]) ((V0.alloc (.cells #[.slice A9 m (c-p)] 26)).alloc (.map (ent4 (xW 90 V0.heap.size) (xW 92 V0.heap.size) (xW 94 V0.heap.size) (xW 96 V0.heap.size)) 4)):=zd2 zcm zct _ (ent4 (xW 90 V0.heap.size) (xW 92 V0.heap.size) (xW 94 V0.heap.size) (xW 96 V0.heap.size)) 4 k _ (V0.heap.size+1) (zb7 _ _ _ (by simp)) (zoz _ _ _ _ _ hk) (zoZ _)
 have HBA:Hid (Below V0.heap.size V0 ((V0.alloc (.cells #[.slice A9 m (c-p)] 26)).alloc (.map (ent4 (xW 90 V0.heap.size) (xW 92 V0.heap.size) (xW 94 V0.heap.size) (xW 96 V0.heap.size)) 4))):=((Below.refl _ V0).alloc xl _).alloc (by simp) _
 have HCB:Hid ((((V0.alloc (.cells #[.slice A9 m (c-p)] 26)).alloc (.map (ent4 (xW 90 V0.heap.size) (xW 92 V0.heap.size) (xW 94 V0.heap.size) (xW 96 V0.heap.size)) 4))).cell? (V0.heap.size,0)=some (.slice A9 m (c-p))):=by show _=_;simp
 have HB1:=xh (HB.out.trans (HBA.out.mono HB.out.size))
 have OR1:=xh (OR.out.below HBA.out)
 have HW1:=xh (zaa HW9.out HBA.out)
 have HS1:Hid (w.heap.size<(((V0.alloc (.cells #[.slice A9 m (c-p)] 26)).alloc (.map (ent4 (xW 90 V0.heap.size) (xW 92 V0.heap.size) (xW 94 V0.heap.size) (xW 96 V0.heap.size)) 4))).heap.size):=OR1.out.lt
 clear hv hq hn hl hk h7 hpk hcap hlc HV HW9 OR
 go_enter Tryz.func55,Tryz.ntmps55
 go_upto_region 1 with (fail)
 rw[HV0.out]
 clear HV0
 go_wp2_with fail
 refine cS.mono ?_
 rintro e w9 ⟨rfl,rfl⟩
 clear cS hA9
 replace HO:Hid (zbp xs p k m=none):=HO.out.trans (zoK HK.out _)
 go_upto_region 5 with (fail)
 obtain⟨V1,hV1⟩:∃V1,((V0.alloc (.cells #[.slice A9 m (c-p)] 26)).alloc (.map (ent4 (xW 90 V0.heap.size) (xW 92 V0.heap.size) (xW 94 V0.heap.size) (xW 96 V0.heap.size)) 4))=V1:=⟨_,rfl⟩
 rw[hV1]at HB1 OR1 ⊢
 clear hL hV1 HBA HCB HW1 HS1
 obtain⟨⟨u0,u1,u2,u3,u4,u5,u6,u7,u8,u9,u10⟩,uf⟩:=OR1.out
 go_wp2_with fail
 have hs:=(OR1.out.setall (⟨0,0,none,0,0,0,none,0,0,none,0,0,0,0,0,0,⟨#[]⟩⟩:RPt)).1
 have hbs:=zag (b:=w.heap.size) HB1.out xl (⟨0,0,none,0,0,0,none,0,0,none,0,0,0,0,0,0,⟨#[]⟩⟩:RPt)
 simp only at hs hbs
 generalize (xC V1 w.heap.size xL:World)=W5 at*
 obtain⟨s0_,s1_,s2_,s3_,s4_,s5_,s6_,s7_,s8_,s9_,s10_⟩:=hs
 exact bodyPost_ret (v:=.tuple #[.agg xL,xI (0),xI 4]) (by simp[results,Tryz.results55,go_sem,s0_,s1_,s2_,s3_,s4_,s5_,s6_,s7_,s8_,s9_,s10_]) rfl ⟨by rw[HO.out],hbs⟩
theorem zgM (v:Value)(xs:List Int)(q k n:Int)(w:World)(hv:Bs w v xs)(hq:0≤q∧q≤xs.length)(hn:0≤n∧n≤65535)(h7:1≤xs.length):Calls Tryz.prog 55 #[v,xI q,xI k,xI n] w (RetG w (zbp xs q k n) (q+n)):=by
 by_cases hl:(xs.length:Int)-q<n
 ·exact ziE v xs q k n w hv hq hn h7 hl
 by_cases h1:k=1
 ·exact zoO v xs q k n w hv hq hn h7 hl h1
 by_cases h2:k=2
 ·exact zph v xs q k n w hv hq hn h7 hl h2
 by_cases h3:k=3
 ·exact zpl v xs q k n w hv hq hn h7 hl h3
 by_cases h4:k=4
 ·exact zo9 v xs q k n w hv hq hn h7 hl h4
 exact zoU v xs q k n w hv hq hn h7 hl ⟨h1,h2,h3,h4⟩
def zdN (xs:List Int)(q:Int):Option (Pt×Int):=
 if(numS xs 2 (numS xs 1 (q,0)).2).2.2=0 then(zbp xs (numS xs 2 (numS xs 1 (q,0)).2).2.1 (numS xs 1 (q,0)).1 (numS xs 2 (numS xs 1 (q,0)).2).1).map fun p=>(p,(numS xs 2 (numS xs 1 (q,0)).2).2.1+(numS xs 2 (numS xs 1 (q,0)).2).1)else none
theorem zfc {xs:List Int}{n:Nat}{p e M s e':Int}(_:1≤n)(_:n≤7)(h:numS xs n (p,e)=(M,s,e'))(h0:e'=0):e=0∧0≤p∧p+n≤xs.length∧s=p+n∧M=segN xs p.toNat n:=by
 subst h0
 unfold numS at h
 split at h
 ·rename_i he
  simp only at he h
  refine⟨he,?_⟩
  unfold getS at h
  split at h
  ·simp at h
  split at h
  ·simp at h
  ·simp only[Prod.mk.injEq,Int.toNat_natCast]at h
   exact⟨by omega,by omega,by omega,h.1.symm⟩
 ·rename_i he
  simp only[Prod.mk.injEq]at h
  exact absurd h.2.2 he
theorem zgA (xs:List Int)(n:Nat)(p:Nat)(h1:1≤n)(h7:n≤7)(h:p+n≤xs.length):numS xs n ((p:Int),0)=(segN xs p n,(p:Int)+n,0):=by
 unfold numS getS
 rw[if_pos rfl,if_neg (by omega),if_neg (by simp only;omega)]
 simp
def rd1 (r:List Int):Option (Pt×List Int):=if r.length<3 then none else if r.length-3<szR r then none else(zaE (r.getD 0 0) ((r.drop 3).take (szR r))).map fun p=>(p,r.drop (3+szR r))
theorem zeO (xs:List Int)(q i:Nat):(xs.drop q).getD i 0=xs.getD (q+i) 0:=by simp[List.getD,List.getElem?_drop]
theorem zdl {xs:List Int}(hx:∀x∈xs,0≤x∧x<256)(i:Nat):0≤xs.getD i 0∧xs.getD i 0<256:=by
 by_cases h:i<xs.length
 ·exact zaQ hx h
 ·rw[List.getD,List.getElem?_eq_none (by omega)];simp
theorem zgK {xs:List Int}(hx:∀x∈xs,0≤x∧x<256){q:Nat}(hq:q≤xs.length):
  (zdN xs q=none∧rd1 (xs.drop q)=none)∨∃(p:Pt) (t:Nat),zdN xs q=some (p,(t:Int))∧q+3≤t∧t≤xs.length∧rd1 (xs.drop q)=some (p,xs.drop t):=by
 by_cases h3:q+3≤xs.length
 ·have e1:=zgA xs 1 q (by decide) (by decide) (by omega)
  have e2:=zgA xs 2 (q+1) (by decide) (by decide) (by omega)
  rw[show((q+1:Nat):Int)=(q:Int)+1 by omega]at e2
  have hz:szR (xs.drop q)=(segN xs (q+1) 2).toNat:=by
   unfold szR
   rw[zeO,zeO,zcR (by omega)]
  have hb:0≤segN xs (q+1) 2:=by
   have h1:=zdl hx (q+1)
   have h2:=zdl hx (q+1+1)
   rw[zcR (by omega)];omega
  obtain⟨z,hz2⟩:∃z:Nat,segN xs (q+1) 2=z:=⟨(segN xs (q+1) 2).toNat,by omega⟩
  have ho:zdN xs q=if(xs.length:Int)-((q:Int)+3)<z then none else(zaE (xs.getD q 0) ((xs.drop (q+3)).take z)).map fun p=>(p,(q:Int)+3+z):=by
   unfold zdN
   rw[show(1:Int)=((1:Nat):Int)from rfl,show(2:Int)=((2:Nat):Int)from rfl,e1]
   simp only[show((1:Nat):Int)=1 from rfl]
   rw[e2]
   simp only[if_true]
   unfold zbp
   rw[hz2,zex xs q (by omega),show(q:Int)+1+((2:Nat):Int)=(q:Int)+3 by omega,show((q:Int)+3).toNat=q+3 by omega,Int.toNat_natCast]
   split
   ·rfl
   ·rfl
  have hr:rd1 (xs.drop q)=if xs.length-(q+3)<z then none else(zaE (xs.getD q 0) ((xs.drop (q+3)).take z)).map fun p=>(p,xs.drop (q+3+z)):=by
   unfold rd1
   rw[if_neg (by rw[List.length_drop];omega),hz,hz2,Int.toNat_natCast,List.length_drop,show xs.length-q-3=xs.length-(q+3)by omega,zeO,List.drop_drop,List.drop_drop,show q+(3+z)=q+3+z by omega,Nat.add_zero q]
  rw[ho,hr]
  by_cases hl:xs.length-(q+3)<z
  ·rw[if_pos (by omega),if_pos hl];exact .inl ⟨rfl,rfl⟩
  ·rw[if_neg (by omega),if_neg hl]
   cases hp:zaE (xs.getD q 0) ((xs.drop (q+3)).take z)with
   | none=>exact .inl ⟨rfl,rfl⟩
   | some p=>exact .inr ⟨p,q+3+z,by simp,by omega,by omega,rfl⟩
 ·refine .inl ⟨?_,?_⟩
  ·unfold zdN
   obtain⟨⟨N1,s1,e1⟩,h1⟩:∃r,numS xs 1 ((q:Int),0)=r:=⟨_,rfl⟩
   rw[h1]
   simp only
   obtain⟨⟨N2,s2,e2⟩,h2⟩:∃r,numS xs 2 (s1,e1)=r:=⟨_,rfl⟩
   rw[h2]
   simp only
   rw[if_neg]
   intro h0
   have a:=zfc (n:=2) (by decide) (by decide) h2 h0
   have b:=zfc (n:=1) (by decide) (by decide) h1 a.1
   omega
  ·unfold rd1
   rw[if_pos (by rw[List.length_drop];omega)]
theorem zew {r r':List Int}{p:Pt}(h:rd1 r=some (p,r')):zaw r=(zaw r').map fun l=>p::l:=by
 unfold rd1 at h
 split at h
 ·cases h
 split at h
 ·cases h
 cases hp:zaE (r.getD 0 0) ((r.drop 3).take (szR r))with
 | none=>rw[hp]at h;cases h
 | some p'=>
  rw[hp]at h
  simp only[Option.map_some,Option.some.injEq,Prod.mk.injEq]at h
  obtain⟨rfl,rfl⟩:=h
  exact zbZ (by omega) (by omega) hp
theorem zmK {r:List Int}(h:rd1 r=none)(h0:r.length≠0):zaw r=none:=by
 unfold rd1 at h
 split at h
 ·exact zcq h0 (by assumption)
 split at h
 ·exact zcx (by omega) (by assumption)
 cases hp:zaE (r.getD 0 0) ((r.drop 3).take (szR r))with
 | none=>exact zdL (by omega) (by omega) hp
 | some p'=>rw[hp]at h;cases h
def rdN:Nat→List Int→Option (List Pt×List Int)
 | 0,r=>some ([],r)
 | n+1,r=>match rdN n r with
  | none=>none
  | some (l,r')=>match rd1 r' with
   | none=>none
   | some (p,r'')=>some (l++[p],r'')
theorem zlH {n:Nat}{r:List Int}(h:rdN n r=none):rdN (n+1) r=none:=by simp[rdN,h]
theorem zlP {n:Nat}{r r':List Int}{l:List Pt}(h:rdN n r=some (l,r'))(h':rd1 r'=none):rdN (n+1) r=none:=by simp[rdN,h,h']
theorem zhD {n:Nat}{r r' r'':List Int}{l:List Pt}{p:Pt}(h:rdN n r=some (l,r'))(h':rd1 r'=some (p,r'')):rdN (n+1) r=some (l++[p],r''):=by simp[rdN,h,h']
theorem zgn:∀(n:Nat) (r r':List Int) (l:List Pt),rdN n r=some (l,r')→l.length=n∧zaw r=(zaw r').map fun m=>l++m
 | 0,r,r',l,h=>by
  simp only[rdN,Option.some.injEq,Prod.mk.injEq]at h
  obtain⟨rfl,rfl⟩:=h
  exact⟨rfl,by simp⟩
 | n+1,r,r',l,h=>by
  unfold rdN at h
  cases h1:rdN n r with
  | none=>rw[h1]at h;cases h
  | some x=>
   obtain⟨l1,r1⟩:=x
   rw[h1]at h
   simp only at h
   cases h2:rd1 r1 with
   | none=>rw[h2]at h;cases h
   | some y=>
    obtain⟨p,r2⟩:=y
    rw[h2]at h
    simp only[Option.some.injEq,Prod.mk.injEq]at h
    obtain⟨rfl,rfl⟩:=h
    obtain⟨a,b⟩:=zgn n r r1 l1 h1
    refine⟨by simp[a],?_⟩
    rw[b,zew h2,Option.map_map]
    congr 1
    funext m
    simp
theorem zkP {r:List Int}{ps:List Pt}(h:zaw r=some ps):∀k,k≤ps.length→∃r',rdN k r=some (ps.take k,r')∧zaw r'=some (ps.drop k)
 | 0,_=>⟨r,rfl,h⟩
 | k+1,hk=>by
  obtain⟨r',h1,h2⟩:=zkP h k (by omega)
  have hd:ps.drop k=ps[k]::ps.drop (k+1):=List.drop_eq_getElem_cons (by omega)
  rw[hd]at h2
  cases h3:rd1 r' with
  | none=>
   by_cases h0:r'.length=0
   ·have e:r'=[]:=List.length_eq_zero_iff.1 h0
    rw[e,zbV]at h2
    cases h2
   ·rw[zmK h3 h0]at h2;cases h2
  | some y=>
   obtain⟨p,r2⟩:=y
   rw[zew h3]at h2
   cases h4:zaw r2 with
   | none=>rw[h4]at h2;cases h2
   | some t=>
    rw[h4]at h2
    simp only[Option.map_some,Option.some.injEq,List.cons.injEq]at h2
    obtain⟨rfl,rfl⟩:=h2
    refine⟨r2,?_,h4⟩
    rw[zhD h1 h3,List.take_succ_eq_append_getElem (by omega)]
theorem zn5 {xs:List Int}(h:ckE xs=0):17≤xs.length∧frPF xs=match zaw ((xs.drop 15).take (xs.length-17))with
  | none=>.inl 4
  | some ps=>if(ps.length:Int)=xs.getD 14 0∧FrOk (xs.getD 2 0) (segN xs 4 4) (xs.getD 3 0) (segN xs 8 4) ps then .inr ⟨xs.getD 2 0,segN xs 4 4,xs.getD 3 0,segN xs 8 4,ps⟩else .inl 4:=by
 unfold ckE at h
 split at h
 ·simp at h
 split at h
 ·simp at h
 split at h
 ·simp at h
 split at h
 ·simp at h
 split at h
 ·simp at h
 rename_i h1 h2 h3 h4 h5
 refine⟨by omega,?_⟩
 unfold frPF
 rw[if_neg h1,if_neg h2,if_neg h3,if_neg h4,if_neg h5]
 rfl
theorem zpT {xs:List Int}(h:ckE xs≠0):frPF xs=.inl (ckE xs):=by
 unfold ckE at h ⊢
 unfold frPF
 split
 ·rfl
 split
 ·rfl
 split
 ·rfl
 split
 ·rfl
 split
 ·rfl
 rename_i h1 h2 h3 h4 h5
 rw[if_neg h1,if_neg h2,if_neg h3,if_neg h4,if_neg h5]at h
 exact absurd rfl h
def frR (xs:List Int):List Int:=(xs.drop 15).take (xs.length-17)
theorem zo6 (xs:List Int):(xs.take (xs.length-2)).drop 15=frR xs:=by
 unfold frR
 rw[List.drop_take,show xs.length-2-15=xs.length-17 by omega]
theorem zkp {xs:List Int}{c:Nat}{ps:List Pt}(hk:ckE xs=0)(hc:xs.getD 14 0=c)(hr:rdN c (frR xs)=some (ps,[]))(ho:FrOk (xs.getD 2 0) (segN xs 4 4) (xs.getD 3 0) (segN xs 8 4) ps):frPF xs=.inr ⟨xs.getD 2 0,segN xs 4 4,xs.getD 3 0,segN xs 8 4,ps⟩:=by
 obtain⟨h1,h2⟩:=zn5 hk
 obtain⟨a,b⟩:=zgn _ _ _ _ hr
 rw[zbV]at b
 have e:zaw ((xs.drop 15).take (xs.length-17))=some ps:=by rw[show(xs.drop 15).take (xs.length-17)=frR xs from rfl,b];simp
 rw[h2,e]
 simp only
 rw[if_pos ⟨by rw[hc,a],ho⟩]
theorem zjz {xs:List Int}{c:Nat}(hk:ckE xs=0)(hc:xs.getD 14 0=c)(hr:∀ps,rdN c (frR xs)=some (ps,[])→¬FrOk (xs.getD 2 0) (segN xs 4 4) (xs.getD 3 0) (segN xs 8 4) ps):frPF xs=.inl 4:=by
 obtain⟨h1,h2⟩:=zn5 hk
 rw[h2]
 cases e:zaw ((xs.drop 15).take (xs.length-17))with
 | none=>rfl
 | some ps=>
  simp only
  rw[if_neg]
  rintro⟨hl,ho⟩
  obtain⟨r',h3,h4⟩:=zkP (show zaw (frR xs)=some ps from e) c (by omega)
  have hl2:ps.length=c:=by omega
  rw[←hl2,List.drop_length]at h4
  rw[←hl2,List.take_length,hl2]at h3
  have h5:r'=[]:=by
   by_cases h0:r'.length=0
   ·exact List.length_eq_zero_iff.1 h0
   ·cases h6:rd1 r' with
    | none=>rw[zmK h6 h0]at h4;cases h4
    | some y=>
     obtain⟨p,r2⟩:=y
     rw[zew h6]at h4
     cases h7:zaw r2 with
     | none=>rw[h7]at h4;cases h4
     | some t=>rw[h7]at h4;simp at h4
  subst h5
  exact hr ps h3 ho
end Go.Proofs.YtjghebcnmoojmaaGreat
