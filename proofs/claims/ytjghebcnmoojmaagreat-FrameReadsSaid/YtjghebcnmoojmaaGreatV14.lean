/- The reference's bytes of an object. Rows of objects: Rows of objects: Rows of objects: -/
import Derived.Test.YtjghebcnmoojmaaGreatV13
set_option maxRecDepth 100000
set_option maxHeartbeats 32000000
namespace Go.Proofs.YtjghebcnmoojmaaGreat
open Go.RowKit MX
section
open Go.Sort
theorem zpr {n:Bool}{t o r d i:Int}(h:HtOk n t o r d i):(-9223372036854775808≤t∧t<9223372036854775808)∧(-9223372036854775808≤d∧d<9223372036854775808):=by
 rcases h.2 with ⟨_,h⟩|⟨_,h⟩
 ·unfold zeX at h;omega
 ·unfold zcd at h;omega
theorem zgc {n:Bool}{t o r d i:Int}(h:HtOk n t o r d i)(w:World):Calls Tryz.prog 87 #[.agg (xB n t o r d i)] w (RetB (htB n t o r d i) 0 w):=by
 have hi:=zpr h
 have:=zih n t o r d i w hi.1.1 hi.1.2 hi.2.1 hi.2.2
 rwa [htBs,if_pos h,zb9 h]at this
theorem zh9 (k x:Int)(n:Bool)(t o r d i p q s m:Int)(w:World)(h:¬ObOk k x n t o r d i p q s m):Calls Tryz.prog 69 #[.agg (xO k x n t o r d i p q s m)] w (RetB [] 1 w):=by
 have hc:=decide_eq_false h
 clear h
 go_enter Tryz.func69,Tryz.ntmps69
 go_wp2_with (go_at_call 86;refine(zbo _ _ _ _ _ _ _ _ _ _ _ _ _).mono ?_;rintro e w' ⟨rfl,hb⟩;rw[hc];have HB:Hid (Below w.heap.size w w'):=(xr.alloc xl _).trans (hb.mono (by simp));clear hb)
 go_ret2
 exact⟨_,rfl,zd0 _,HB.out⟩
theorem zkl (x:Int)(n:Bool)(t o r d i p q s m:Int)(w:World)(h:ObOk 1 x n t o r d i p q s m):Calls Tryz.prog 69 #[.agg (xO 1 x n t o r d i p q s m)] w (RetB (obB 1 x n t o r d i p q s m) 0 w):=by
 have hc:=decide_eq_true h
 have hx:0≤x∧x<64:=h.2.1
 have hwx:IntKind.u8.wrap x=x:=by rw[IntKind.wrap_u8];omega
 have hwk:IntKind.u8.wrap 1=1:=by decide
 clear h
 go_enter Tryz.func69,Tryz.ntmps69
 go_wp2_with (first
  | (go_at_call 86;refine(zbo _ _ _ _ _ _ _ _ _ _ _ _ _).mono ?_;rintro e V ⟨rfl,hb⟩;rw[hc];have K:=xh ((zak w 1 x n t o r d i p q s m 63).below hb);have HB:Hid (Below w.heap.size w V):=(xr.alloc xl _).trans (hb.mono (by simp));have HL1:Hid (w.heap.size<V.heap.size):=Nat.lt_of_lt_of_le (by simp) hb.size;clear hb;have⟨c0,c1,c2,c3,c4,c5,c6,c7,c8,c9,c10,c11⟩:=K.out;have⟨g0,g1,g2,g3,g4,g5,g6,g7,g8,g9,g10,g11⟩:=K.out.allocs))
 go_ret2
 refine⟨_,rfl,?_,(HB.out.alloc HB.out.size _)⟩
 exact zcl V 1 x (by omega) (by omega) _ rfl
theorem zkm (x:Int)(n:Bool)(t o r d i p q s m:Int)(w:World)(h:ObOk 2 x n t o r d i p q s m):Calls Tryz.prog 69 #[.agg (xO 2 x n t o r d i p q s m)] w (RetB (obB 2 x n t o r d i p q s m) 0 w):=by
 have hc:=decide_eq_true h
 have hx:0≤x∧x<64:=h.2.1
 have hwx:IntKind.u8.wrap x=x:=by rw[IntKind.wrap_u8];omega
 have hwk:IntKind.u8.wrap 2=2:=by decide
 have hh:HtOk n t o r d i:=h.2.2.2.2.1
 have hbt:=xh (zdI hh)
 have hle:=zgp n t o r d i
 have cB:=zgc hh
 clear hh
 clear h
 go_enter Tryz.func69,Tryz.ntmps69
 go_wp2_with (first
  | (go_at_call 86;refine(zbo _ _ _ _ _ _ _ _ _ _ _ _ _).mono ?_;rintro e V ⟨rfl,hb⟩;rw[hc];have K:=xh ((zak w 2 x n t o r d i p q s m 63).below hb);have HB:Hid (Below w.heap.size w V):=(xr.alloc xl _).trans (hb.mono (by simp));have HL1:Hid (w.heap.size<V.heap.size):=Nat.lt_of_lt_of_le (by simp) hb.size;clear hb;have⟨c0,c1,c2,c3,c4,c5,c6,c7,c8,c9,c10,c11⟩:=K.out;have⟨g0,g1,g2,g3,g4,g5,g6,g7,g8,g9,g10,g11⟩:=K.out.allocs)
  | (go_at_call 87;refine(cB _).mono ?_;rintro e w2 ⟨r2,rfl,hr2,hb⟩;have O2:=xh (zaM (zcj V V.heap.size 2 x xl _ rfl) hb);have R2:Hid (Bs w2 r2 (htB n t o r d i)):=hr2;have Hw2:Hid (Below V.heap.size V w2):=((Below.refl _ V).alloc xl _).trans (hb.mono (by simp));have Kw2:=xh (K.out.old Hw2.out HL1.out);have⟨cw20,cw21,cw22,cw23,cw24,cw25,cw26,cw27,cw28,cw29,cw210,cw211⟩:=Kw2.out;clear hb hr2)
  | (at_builtin;refine za7 rfl (.tmp 31) (.tmp 32) rfl V.heap.size [2,x] (htB n t o r d i) O2.out R2.out (by simp;omega) Hw2.out.size ?_;intro v3 w3 hown3 hb3 hs3;have O3:=xh hown3;have Hw3:=xh (Hw2.out.trans hb3);have Kw3:=xh (K.out.old Hw3.out HL1.out);have⟨cw30,cw31,cw32,cw33,cw34,cw35,cw36,cw37,cw38,cw39,cw310,cw311⟩:=Kw3.out;clear hown3 hb3 hs3))
 go_ret2
 refine⟨_,rfl,?_,HB.out.trans (Hw3.out.mono HB.out.size)⟩
 exact zaq O3.out (zaS (by intro z hz;simp at hz;rcases hz with rfl|rfl<;>omega) hbt.out) (show([2,x]++htB n t o r d i).length≤_ by simp;omega)
theorem zjx (x:Int)(n:Bool)(t o r d i p q s m:Int)(w:World)(h:ObOk 3 x n t o r d i p q s m):Calls Tryz.prog 69 #[.agg (xO 3 x n t o r d i p q s m)] w (RetB (obB 3 x n t o r d i p q s m) 0 w):=by
  have hc:=decide_eq_true h
  have hx:0≤x∧x<64:=h.2.1
  have hwx:IntKind.u8.wrap x=x:=by rw[IntKind.wrap_u8];omega
  have hwk:IntKind.u8.wrap 3=3:=by decide
  have hl:HtOk false p q s 0 0:=h.2.2.2.1
  have hr : zcd p q s 0 := by rcases hl.2 with h | h; · cases h.1
                              exact h.2
  have hp1: -9223372036854775808≤p:=by have:=hr.1;omega
  have hp2:p<9223372036854775808:=by have:=hr.2.1;omega
  have hq:0≤q∧q<64:=hr.2.2.1
  have hs:0≤s∧s<256:=by have:=hr.2.2.2.1;omega
  have hwq:IntKind.u8.wrap q=q:=by rw[IntKind.wrap_u8];omega
  have hws:IntKind.u8.wrap s=s:=by rw[IntKind.wrap_u8];omega
  have l8:=zca
  clear hl hr
  clear h
  go_enter Tryz.func69,Tryz.ntmps69
  go_wp2_with (first
    | (go_at_call 86;refine(zbo _ _ _ _ _ _ _ _ _ _ _ _ _).mono ?_;rintro e V ⟨rfl,hb⟩;rw[hc];have K:=xh ((zak w 3 x n t o r d i p q s m 63).below hb);have HB:Hid (Below w.heap.size w V):=(xr.alloc xl _).trans (hb.mono (by simp));have HL1:Hid (w.heap.size<V.heap.size):=Nat.lt_of_lt_of_le (by simp) hb.size;clear hb;have⟨c0,c1,c2,c3,c4,c5,c6,c7,c8,c9,c10,c11⟩:=K.out;have⟨g0,g1,g2,g3,g4,g5,g6,g7,g8,g9,g10,g11⟩:=K.out.allocs)
    | (go_at_call 88;refine(zfs p _ hp1 hp2).mono ?_;rintro e w2 ⟨r2,rfl,hr2,hb⟩;have O2:=xh (zaM (zcj V V.heap.size 3 x xl _ rfl) hb);have R2:Hid (Bs w2 r2 (i8 p)):=hr2;have Hw2:Hid (Below V.heap.size V w2):=((Below.refl _ V).alloc xl _).trans (hb.mono (by simp));have Kw2:=xh (K.out.old Hw2.out HL1.out);have⟨cw20,cw21,cw22,cw23,cw24,cw25,cw26,cw27,cw28,cw29,cw210,cw211⟩:=Kw2.out;clear hb hr2)
    | (at_builtin;refine za7 rfl (.tmp 37) (.tmp 41) rfl V.heap.size [3,x] (i8 p) O2.out R2.out (by simp[l8]) Hw2.out.size ?_;intro v3 w3 hown3 hb3 hs3;have O3:=xh hown3;have Hw3:=xh (Hw2.out.trans hb3);have Kw3:=xh (K.out.old Hw3.out HL1.out);have⟨cw30,cw31,cw32,cw33,cw34,cw35,cw36,cw37,cw38,cw39,cw310,cw311⟩:=Kw3.out;clear hown3 hb3 hs3)
    | (at_builtin;refine za7 rfl (.tmp 43) (.tmp 52) rfl V.heap.size ([3,x]++i8 p) [q,s] (O3.out.alloc _) (zcl w3 q s (by omega) hs _ rfl) (by simp[l8]) (Nat.le_trans Hw3.out.size (by simp)) ?_;intro v4 w4 hown4 hb4 hs4;have O4:=xh hown4;have Hw4:=xh ((Hw3.out.alloc Hw3.out.size _).trans hb4);have Kw4:=xh (K.out.old Hw4.out HL1.out);have⟨cw40,cw41,cw42,cw43,cw44,cw45,cw46,cw47,cw48,cw49,cw410,cw411⟩:=Kw4.out;clear hown4 hb4 hs4))
  go_ret2
  refine⟨_,rfl,?_,HB.out.trans (Hw4.out.mono HB.out.size)⟩
  exact zaq O4.out (zaS (zaS (by intro z hz;simp at hz;rcases hz with rfl|rfl<;>omega) (zev p)) (by intro z hz;simp at hz;rcases hz with rfl|rfl<;>omega)) (show([3,x]++i8 p++[q,s]).length≤_ by simp[l8])
theorem zkN (x:Int)(n:Bool)(t o r d i p q s m:Int)(w:World)(h:ObOk 4 x n t o r d i p q s m):Calls Tryz.prog 69 #[.agg (xO 4 x n t o r d i p q s m)] w (RetB (obB 4 x n t o r d i p q s m) 0 w):=by
 have hc:=decide_eq_true h
 have hx:0≤x∧x<64:=h.2.1
 have hwx:IntKind.u8.wrap x=x:=by rw[IntKind.wrap_u8];omega
 have hwk:IntKind.u8.wrap 4=4:=by decide
 have hh:HtOk n t o r d i:=h.2.2.2.2.1
 have hbt:=xh (zdI hh)
 have hle:=zgp n t o r d i
 have cB:=zgc hh
 clear hh
 have hm:0≤m∧m≤65535:=h.2.2.2.2.2
 have hq:m.tdiv 256=m/256:=Int.tdiv_eq_ediv_of_nonneg hm.1
 have hr:m.tmod 256=m%256:=Int.tmod_eq_emod_of_nonneg hm.1
 have hwq:IntKind.u8.wrap (m/256)=m/256:=by rw[IntKind.wrap_u8];omega
 have hwr:IntKind.u8.wrap (m%256)=m%256:=by rw[IntKind.wrap_u8];omega
 have hwd:wrap64 (m/256)=m/256:=by unfold wrap64;omega
 have hwe:wrap64 (m%256)=m%256:=by unfold wrap64;omega
 have hwd':IntKind.i64.wrap (m/256)=m/256:=by rw[IntKind.wrap_i64];omega
 have hwe':IntKind.i64.wrap (m%256)=m%256:=by rw[IntKind.wrap_i64];omega
 clear h
 go_enter Tryz.func69,Tryz.ntmps69
 go_wp2_with (first
  | (go_at_call 86;refine(zbo _ _ _ _ _ _ _ _ _ _ _ _ _).mono ?_;rintro e V ⟨rfl,hb⟩;rw[hc];have K:=xh ((zak w 4 x n t o r d i p q s m 63).below hb);have HB:Hid (Below w.heap.size w V):=(xr.alloc xl _).trans (hb.mono (by simp));have HL1:Hid (w.heap.size<V.heap.size):=Nat.lt_of_lt_of_le (by simp) hb.size;clear hb;have⟨c0,c1,c2,c3,c4,c5,c6,c7,c8,c9,c10,c11⟩:=K.out;have⟨g0,g1,g2,g3,g4,g5,g6,g7,g8,g9,g10,g11⟩:=K.out.allocs)
  | (go_at_call 87;refine(cB _).mono ?_;rintro e w2 ⟨r2,rfl,hr2,hb⟩;have O2:=xh (zaM (zcj V V.heap.size 4 x xl _ rfl) hb);have R2:Hid (Bs w2 r2 (htB n t o r d i)):=hr2;have Hw2:Hid (Below V.heap.size V w2):=((Below.refl _ V).alloc xl _).trans (hb.mono (by simp));have Kw2:=xh (K.out.old Hw2.out HL1.out);have⟨cw20,cw21,cw22,cw23,cw24,cw25,cw26,cw27,cw28,cw29,cw210,cw211⟩:=Kw2.out;clear hb hr2)
  | (at_builtin;refine za7 rfl (.tmp 31) (.tmp 32) rfl V.heap.size [4,x] (htB n t o r d i) O2.out R2.out (by simp;omega) Hw2.out.size ?_;intro v3 w3 hown3 hb3 hs3;have O3:=xh hown3;have Hw3:=xh (Hw2.out.trans hb3);have Kw3:=xh (K.out.old Hw3.out HL1.out);have⟨cw30,cw31,cw32,cw33,cw34,cw35,cw36,cw37,cw38,cw39,cw310,cw311⟩:=Kw3.out;clear hown3 hb3 hs3)
  | (at_builtin;refine za7 rfl (.tmp 57) (.tmp 66) rfl V.heap.size ([4,x]++htB n t o r d i) [m/256,m%256] (O3.out.alloc _) (zcl w3 (m/256) (m%256) (by omega) (by omega) _ rfl) (by simp;omega) (Nat.le_trans Hw3.out.size (by simp)) ?_;intro v5 w5 hown5 hb5 hs5;have O5:=xh hown5;have Hw5:=xh ((Hw3.out.alloc Hw3.out.size _).trans hb5);clear hown5 hb5 hs5))
 go_ret2
 refine⟨_,rfl,?_,HB.out.trans (Hw5.out.mono HB.out.size)⟩
 exact zaq O5.out (zaS (zaS (by intro z hz;simp at hz;rcases hz with rfl|rfl<;>omega) hbt.out) (by intro z hz;simp at hz;rcases hz with rfl|rfl<;>omega)) (show([4,x]++htB n t o r d i++[m/256,m%256]).length≤_ by simp;omega)
theorem zc5 (k x:Int)(n:Bool)(t o r d i p q s m:Int)(w:World):Calls Tryz.prog 69 #[.agg (xO k x n t o r d i p q s m)] w (RetB (obBs k x n t o r d i p q s m) (obc k x n t o r d i p q s m) w):=by
 by_cases h:ObOk k x n t o r d i p q s m
 ·rw[obBs,if_pos h,zb1 h]
  rcases zdA h with rfl|rfl|rfl|rfl
  ·exact zkl x n t o r d i p q s m w h
  ·exact zkm x n t o r d i p q s m w h
  ·exact zjx x n t o r d i p q s m w h
  ·exact zkN x n t o r d i p q s m w h
 ·rw[obBs,if_neg h,zc1 h]
  exact zh9 k x n t o r d i p q s m w h
end
section
open Go.Sort Go.WideShapes Go.ChangeShapes
structure Ob where
 k:Int
 x:Int
 n:Bool
 t:Int
 o:Int
 r:Int
 d:Int
 i:Int
 p:Int
 q:Int
 s:Int
 m:Int
def z12:Ob:=⟨0,0,false,0,0,0,0,0,0,0,0,0⟩
def Ob.cl (y:Ob):List Value:=[xI y.k,xI y.x,.bool y.n,xI y.t,xI y.o,xI y.r,xI y.d,xI y.i,xI y.p,xI y.q,xI y.s,xI y.m]
def Ob.Ok (y:Ob):Prop:=ObOk y.k y.x y.n y.t y.o y.r y.d y.i y.p y.q y.s y.m
instance (y:Ob):Decidable y.Ok:=by unfold Ob.Ok;infer_instance
def Ob.bs (y:Ob):List Int:=obBs y.k y.x y.n y.t y.o y.r y.d y.i y.p y.q y.s y.m
theorem zhv (y:Ob):y.cl.length=12:=rfl
def flat (ys:List Ob):List Value:=ys.flatMap Ob.cl
theorem zhy (ys:List Ob):(flat ys).length=ys.length*12:=by
 induction ys with
 | nil=>rfl
 | cons y ys ih=>simp only[flat,List.flatMap_cons,List.length_append,List.length_cons,zhv]at *;omega
theorem zmf (xs ys:List Ob):flat (xs++ys)=flat xs++flat ys:=by simp[flat]
theorem zjG:∀(ys:List Ob) (i j:Nat),i<ys.length→j<12→(flat ys)[i*12+j]? =(ys.getD i z12).cl[j]?
 | [],i,j,h,_=>by simp at h
 | y::ys,0,j,_,hj=>by
  simp only[flat,List.flatMap_cons,Nat.zero_mul,Nat.zero_add,List.getD_cons_zero]
  rw[List.getElem?_append_left (by rw[zhv];exact hj)]
 | y::ys,i+1,j,h,hj=>by
  have ih:=zjG ys i j (by simpa using h) hj
  simp only[flat,List.flatMap_cons,List.getD_cons_succ]at*
  rw[List.getElem?_append_right (by rw[zhv];omega),zhv,show(i+1)*12+j-12=i*12+j by omega]
  exact ih
def C12 (w:World)(b o:Nat)(y:Ob):Prop:=∀j,j<12→w.cell? ⟨b,o+j,none⟩=y.cl[j]?
theorem C12.all {w:World}{b o:Nat}{y:Ob}(h:C12 w b o y):w.cell? ⟨b,o,none⟩=xJ y.k∧w.cell? ⟨b,o+1,none⟩=xJ y.x∧w.cell? ⟨b,o+2,none⟩=some (.bool y.n)∧w.cell? ⟨b,o+3,none⟩=xJ y.t∧w.cell? ⟨b,o+4,none⟩=xJ y.o∧w.cell? ⟨b,o+5,none⟩=xJ y.r∧w.cell? ⟨b,o+6,none⟩=xJ y.d∧w.cell? ⟨b,o+7,none⟩=xJ y.i∧w.cell? ⟨b,o+8,none⟩=xJ y.p∧w.cell? ⟨b,o+9,none⟩=xJ y.q∧w.cell? ⟨b,o+10,none⟩=xJ y.s∧w.cell? ⟨b,o+11,none⟩=xJ y.m:=
 ⟨h 0 (by decide),h 1 (by decide),h 2 (by decide),h 3 (by decide),h 4 (by decide),h 5 (by decide),h 6 (by decide),h 7 (by decide),h 8 (by decide),h 9 (by decide),h 10 (by decide),h 11 (by decide)⟩
def Os (w:World)(v:Value)(ys:List Ob):Prop:=
 (∃a cap,v=.slice a 0 cap∧(a=none→cap=0)∧ys=[])∨
 ∃b off cap,v=.slice (some ⟨b,off,none⟩) ys.length cap∧ys.length≤cap∧b<w.heap.size∧∀i,i<ys.length→C12 w b (off+i*12) (ys.getD i z12)
theorem Os.below {w w':World}{v:Value}{ys:List Ob}(h:Os w v ys)(hb:Below w.heap.size w w'):Os w' v ys:=by
 rcases h with h|⟨b,off,cap,h1,h2,h3,h4⟩
 ·exact .inl h
 ·refine .inr ⟨b,off,cap,h1,h2,Nat.lt_of_lt_of_le h3 hb.size,fun i hi j hj=>?_⟩
  rw[hb.cell (p:=⟨b,off+i*12+j,none⟩) h3]
  exact h4 i hi j hj
theorem Os.form {w:World}{v:Value}{ys:List Ob}(h:Os w v ys):∃a c,v=.slice a ys.length c:=by
 rcases h with ⟨a,cap,h1,_,rfl⟩|⟨b,off,cap,h1,_⟩
 ·exact⟨a,cap,h1⟩
 ·exact⟨_,_,h1⟩
theorem zf3 (w:World):Os w xS []:=.inl ⟨none,0,rfl,fun _=>rfl,rfl⟩
theorem zhJ {w:World}{base n:Nat}{g cap:Nat}{xs:List Value}{e:TypeId}{size:Nat}(h:w.ownsRow base e size (.slice (some (xQ g 0)) n cap) n xs)(j:Nat)(hj:j<n*size):w.cell? ⟨g,j,none⟩=xs[j]? :=by
 rcases h.2 with ⟨h1,_⟩|⟨g',cap',cur,hv,_,hg,_,_,_,htake⟩
 ·cases h1
 ·simp only[Value.slice.injEq,Option.some.injEq,Addr.mk.injEq,and_true,true_and]at hv
  obtain⟨rfl,rfl⟩:=hv
  rw[cell_of_row w g j cur e (0,0) hg,←htake,List.getElem?_take,if_pos hj]
  simp
theorem zcA {w:World}{base n:Nat}{v:Value}{ys:List Ob}(h:w.ownsRow base 63 12 v n (flat ys)):Os w v ys∧n=ys.length:=by
 have hn:n=ys.length:=by have:=h.1;rw[zhy]at this;omega
 subst hn
 refine⟨?_,rfl⟩
 rcases h.2 with ⟨h1,h2⟩|⟨g,cap,cur,rfl,_,hg,hnc,_,_,htake⟩
 ·exact .inl ⟨none,0,h1,fun _=>rfl,List.length_eq_zero_iff.1 h2⟩
 ·refine .inr ⟨g,0,cap,rfl,hnc,(Array.getElem?_eq_some_iff.1 hg).1,fun i hi j hj=>?_⟩
  rw[Nat.zero_add,zhJ h (i*12+j) (by omega),zjG ys i j hi hj]
theorem zff:Tryz.prog.underlying 43=some (.slice 63):=by kernel_rfl
theorem zmA:(Tryz.prog.info? 63).map (fun i=>(i.zero,i.size,i.bytes))=some (some (.agg xZ),12,96):=by kernel_rfl
theorem zkE (ys:List Ob):∀u∈flat ys,u.oneCell'=true:=by
 intro u hu
 obtain⟨y,_,hy⟩:=List.mem_flatMap.1 hu
 simp only[Ob.cl,List.mem_cons,List.not_mem_nil,or_false]at hy
 rcases hy with rfl|rfl|rfl|rfl|rfl|rfl|rfl|rfl|rfl|rfl|rfl|rfl<;>rfl
end
section
open Go.Sort
theorem zpu (y z:Ob):eqO y.k y.x y.n y.t y.o y.r y.d y.i y.p y.q y.s y.m z.k z.x z.n z.t z.o z.r z.d z.i z.p z.q z.s z.m=true↔y=z:=by
 rw[znr]
 constructor
 ·intro h
  cases y;cases z
  simpa using h
 ·rintro rfl
  exact⟨rfl,rfl,rfl,rfl,rfl,rfl,rfl,rfl,rfl,rfl,rfl,rfl⟩
theorem zpP (k x:Int)(n:Bool)(t o r d i p q s m:Int)(k' x':Int)(n':Bool)(t' o' r' d' i' p' q' s' m':Int)(w:World):(binOp .neq 63 (.agg (xO k x n t o r d i p q s m)) (.agg (xO k' x' n' t' o' r' d' i' p' q' s' m'))).run Tryz.prog w=.ok (.bool (!eqO k x n t o r d i p q s m k' x' n' t' o' r' d' i' p' q' s' m')) w:=by
 rw[run_neq_struct,zle];rfl
theorem Os.at {w:World}{a:Option Addr}{c:Nat}{ys:List Ob}(h:Os w (.slice a ys.length c) ys){i:Nat}(hi:i<ys.length):∃b off,a=some ⟨b,off,none⟩∧b<w.heap.size∧C12 w b (off+i*12) (ys.getD i z12):=by
 rcases h with ⟨a',cap,hv,_,rfl⟩|⟨b,off,cap,hv,_,hB,hc⟩
 ·simp at hi
 ·simp only[Value.slice.injEq]at hv
  exact⟨b,off,hv.1,hB,hc i hi⟩
theorem znd {ys zs:List Ob}(hl:ys.length=zs.length)(h:∀i,i<ys.length→ys.getD i z12=zs.getD i z12):ys=zs:=by
 refine List.ext_getElem hl fun i h1 h2=>?_
 have:=h i h1
 simpa [List.getD,h1,h2]using this
theorem zlw (v u:Value)(ys zs:List Ob)(w:World)(hy:Os w v ys)(hz:Os w u zs)(hl:ys.length≤3000):
  Calls Tryz.prog 66 #[v,u] w fun e w'=>(∃b:Bool,e=.returned (.bool b)∧(b=true↔ys=zs))∧Below w.heap.size w w':=by
 obtain⟨a,c,rfl⟩:=hy.form
 obtain⟨a',c',rfl⟩:=hz.form
 have HY:=xh hy
 have HZ:=xh hz
 clear hy hz
 by_cases hne:ys.length=zs.length
 ·have hne':((ys.length:Int)==(zs.length:Int))=true:=by rw[beq_iff_eq];omega
  have HN:=xh hne
  clear hne
  go_enter Tryz.func66,Tryz.ntmps66
  go_wp2_with fail
  go_loopw [5] (fun i wr=>∃k:Nat,k≤ys.length∧i=xI k∧(∀i,i<k→ys.getD i z12=zs.getD i z12)∧Below w.heap.size w wr) (fun i _=>ys.length-(intOf i).toNat)
  case atStart=>exact⟨0,Nat.zero_le _,rfl,fun i h=>absurd h (Nat.not_lt_zero _),Below.refl _ _⟩
  case round=>
   obtain⟨k,hk,rfl,hsame,hbel⟩:=hrel
   have HS:=xh hsame
   have HB:=xh hbel
   clear hsame hbel
   by_cases hlt:k<ys.length
   ·obtain⟨b,off,rfl,hB,hc⟩:=(HY.out.below HB.out).at hlt
    have hlt2:k<zs.length:=by have:=HN.out;omega
    obtain⟨b2,off2,rfl,hB2,hc2⟩:=(HZ.out.below HB.out).at hlt2
    obtain⟨y,hyk⟩:∃y,ys.getD k z12=y:=⟨_,rfl⟩
    obtain⟨z,hzk⟩:∃z,zs.getD k z12=z:=⟨_,rfl⟩
    rw[hyk]at hc
    rw[hzk]at hc2
    obtain⟨p0,p1,p2,p3,p4,p5,p6,p7,p8,p9,p10,p11⟩:=hc.all
    obtain⟨q0,q1,q2,q3,q4,q5,q6,q7,q8,q9,q10,q11⟩:=hc2.all
    have HK:=xh hyk
    have HK2:=xh hzk
    clear hc hc2 hyk hzk
    have E1:=zn9
    have E2:=zpP
    obtain⟨q,hq⟩:∃q,eqO y.k y.x y.n y.t y.o y.r y.d y.i y.p y.q y.s y.m z.k z.x z.n z.t z.o z.r z.d z.i z.p z.q z.s z.m=q:=⟨_,rfl⟩
    have HQ:Hid (q=true↔y=z):=by rw[←hq];exact zpu y z
    go_wp2_with fail
    go_region
    cases q with
    | true=>
     go_wp2_with fail
     go_roundw
     case rel=>
      refine⟨k+1,by omega,by go_num,?_,HB.out.drew⟩
      intro j hj
      by_cases h:j<k
      ·exact HS.out j h
      ·obtain rfl:j=k:=by omega
       rw[HK.out,HK2.out];exact HQ.out.1 rfl
     case measure=>simp[intOf];omega
    | false=>
     go_wp2_with fail
     go_ret
     refine⟨⟨false,rfl,⟨(fun h=>by cases h),fun h=>?_⟩⟩,HB.out.drew⟩
     subst h
     exact absurd (HQ.out.2 (HK.out.symm.trans HK2.out)) (by decide)
   ·obtain rfl:k=ys.length:=by omega
    go_wp2_with fail
    go_ret
    exact⟨⟨true,rfl,⟨fun _=>znd HN.out HS.out,fun _=>rfl⟩⟩,HB.out⟩
 ·have hne':((ys.length:Int)==(zs.length:Int))=false:=by rw[beq_eq_false_iff_ne];omega
  have HN:=xh hne
  clear hne
  go_enter Tryz.func66,Tryz.ntmps66
  go_wp2_with fail
  go_ret
  exact⟨⟨false,rfl,⟨(fun h=>by cases h),fun h=>absurd (congrArg List.length h) HN.out⟩⟩,Below.refl _ _⟩
end
section
open Go.Sort
def osz (ys:List Ob):Nat:=(ys.map fun y=>y.bs.length).sum
def zc8 (ys:List Ob):Prop:=∀i,i<ys.length→(ys.getD i z12).Ok
instance (ys:List Ob):Decidable (zc8 ys):=by unfold zc8;infer_instance
theorem zfh (ys:List Ob)(k:Nat)(h:k<ys.length):osz (ys.take (k+1))=osz (ys.take k)+(ys.getD k z12).bs.length:=by
 unfold osz
 rw[List.take_succ_eq_append_getElem h,List.map_append,List.sum_append]
 simp[List.getD,h]
theorem zjK (y:Ob):y.bs.length≤40:=by
 unfold Ob.bs obBs
 split
 ·have h:=zgp y.n y.t y.o y.r y.d y.i
  unfold obB
  split
  ·simp
  ·split
   ·simp;omega
   ·split
    ·simp[zca]
    ·simp;omega
 ·simp
theorem zkh:∀ys:List Ob,osz ys≤40*ys.length
 | []=>by simp[osz]
 | y::ys=>by
  have h1:=zkh ys
  have h2:=zjK y
  simp only[osz,List.map_cons,List.sum_cons,List.length_cons]at*
  omega
def ziW (ys:List Ob):Int:=if zc8 ys then 3+(osz ys:Int)else -1
theorem zl4 (v:Value)(ys:List Ob)(w:World)(hy:Os w v ys)(hl:ys.length≤3000):
  Calls Tryz.prog 85 #[v] w fun e w'=>e=.returned (xI (ziW ys))∧Below w.heap.size w w':=by
 obtain⟨a,c,rfl⟩:=hy.form
 have HY:=xh hy
 clear hy
 go_enter Tryz.func85,Tryz.ntmps85
 go_wp2_with fail
 go_loopw [3,4,5,6] (fun n i _ _ wr=>∃k:Nat,k≤ys.length∧i=xI k∧n=xI (3+(osz (ys.take k):Int))∧(∀i,i<k→(ys.getD i z12).Ok)∧Below w.heap.size w wr) (fun _ i _ _ _=>ys.length-(intOf i).toNat)
 case atStart=>exact⟨0,Nat.zero_le _,rfl,rfl,fun i h=>absurd h (Nat.not_lt_zero _),Below.refl _ _⟩
 case round=>
  obtain⟨k,hk,rfl,rfl,hok,hbel⟩:=hrel
  have HO:=xh hok
  have HB:=xh hbel
  clear hok hbel
  have hz:=zkh (ys.take k)
  have hzk:osz (ys.take k)≤120000:=by rw[List.length_take]at hz;omega
  clear hz
  by_cases hlt:k<ys.length
  ·obtain⟨b,off,rfl,hB,hc⟩:=(HY.out.below HB.out).at hlt
   have hsucc:=xh (zfh ys k hlt)
   obtain⟨y,hyk⟩:∃y,ys.getD k z12=y:=⟨_,rfl⟩
   rw[hyk]at hc hsucc
   obtain⟨p0,p1,p2,p3,p4,p5,p6,p7,p8,p9,p10,p11⟩:=hc.all
   have HK:=xh hyk
   have hyl:=zjK y
   clear hc hyk
   by_cases hq:y.Ok
   ·have cB:∀w,Calls Tryz.prog 69 #[.agg (xO y.k y.x y.n y.t y.o y.r y.d y.i y.p y.q y.s y.m)] w (RetB y.bs 0 w):=fun w=>by
     have h:=zc5 y.k y.x y.n y.t y.o y.r y.d y.i y.p y.q y.s y.m w
     rwa [show obc y.k y.x y.n y.t y.o y.r y.d y.i y.p y.q y.s y.m=0 from zb1 hq]at h
    have HQ:=xh hq
    clear hq
    go_wp2_with fail
    refine(cB _).mono ?_
    rintro e w1 ⟨r1,rfl,hr1,hb⟩
    replace HB:=xh (HB.out.trans (hb.mono HB.out.size))
    obtain⟨a1,c1,rfl⟩:=zhF hr1
    clear hb hr1
    go_wp2_with fail
    go_roundw
    case rel=>
     refine⟨k+1,by omega,by go_num,?_,?_,HB.out⟩
     ·rw[hsucc.out];go_num
     ·intro j hj
      by_cases h:j<k
      ·exact HO.out j h
      ·obtain rfl:j=k:=by omega
       rw[HK.out];exact HQ.out
    case measure=>simp[intOf];omega
   ·have cB:∀w,Calls Tryz.prog 69 #[.agg (xO y.k y.x y.n y.t y.o y.r y.d y.i y.p y.q y.s y.m)] w (RetB y.bs 1 w):=fun w=>by
     have h:=zc5 y.k y.x y.n y.t y.o y.r y.d y.i y.p y.q y.s y.m w
     rwa [show obc y.k y.x y.n y.t y.o y.r y.d y.i y.p y.q y.s y.m=1 from zc1 hq]at h
    have HQ:=xh hq
    clear hq
    go_wp2_with fail
    refine(cB _).mono ?_
    rintro e w1 ⟨r1,rfl,hr1,hb⟩
    replace HB:=xh (HB.out.trans (hb.mono HB.out.size))
    obtain⟨a1,c1,rfl⟩:=zhF hr1
    clear hb hr1
    go_wp2_with fail
    go_ret
    refine⟨?_,HB.out⟩
    have hv:ziW ys= -1:=if_neg (fun h=>HQ.out (by rw[←HK.out];exact h k hlt))
    rw[hv];rfl
  ·obtain rfl:k=ys.length:=by omega
   go_wp2_with fail
   go_ret
   refine⟨?_,HB.out⟩
   have hv:ziW ys=3+(osz ys:Int):=if_pos (show zc8 ys from HO.out)
   rw[hv,List.take_length];rfl
end
end Go.Proofs.YtjghebcnmoojmaaGreat
