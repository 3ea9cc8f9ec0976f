/- An object as bytes, and how many these are. -/
import Derived.Test.YtjghebcnmoojmaaGreatV06
set_option maxRecDepth 100000
set_option maxHeartbeats 32000000
namespace Go.Proofs.YtjghebcnmoojmaaGreat
open Go.RowKit MX
section
open Go.Sort
def obB (k x:Int)(n:Bool)(t o r d i p q s m:Int):List Int:=
 if k=1 then[1,x]else if k=2 then[2,x]++htB n t o r d i else if k=3 then[3,x]++i8 p++[q,s]else[4,x]++htB n t o r d i++[m/256,m%256]
def obBs (k x:Int)(n:Bool)(t o r d i p q s m:Int):List Int:=if ObOk k x n t o r d i p q s m then obB k x n t o r d i p q s m else[]
theorem zb1 {k x:Int}{n:Bool}{t o r d i p q s m:Int}(h:ObOk k x n t o r d i p q s m):obc k x n t o r d i p q s m=0:=by unfold obc;rw[if_pos h]
theorem zc1 {k x:Int}{n:Bool}{t o r d i p q s m:Int}(h:¬ObOk k x n t o r d i p q s m):obc k x n t o r d i p q s m=1:=by unfold obc;rw[if_neg h]
theorem zf5 {m:Int}(h:0≤m∧m≤65535):lo m 2=[m/256,m%256]:=by
 have e:lo m 2=[m/256%256,m%256]:=by simp[lo,List.range,List.range.loop]
 rw[e,show m/256%256=m/256 by omega]
theorem zoj {m:Int}(h:0≤m∧m≤65535)(w:World):Calls Tryz.prog 42 #[xI m,xI 2] w (RetB [m/256,m%256] 0 w):=by
 have ok:zcJ m 2:=⟨by decide,by decide,h.1,by rw[show zao (2:Int).toNat=65536 by decide];omega⟩
 refine(zno m 2 w (by omega)).mono fun e w' ⟨r,he,hr,hb⟩=>⟨r,?_,?_,hb⟩
 ·rw[he,putE,if_pos ok]
 ·rw[putB,if_pos ok,show(2:Int).toNat=2 from rfl,zf5 h]at hr;exact hr
theorem zdI {n:Bool}{t o r d i:Int}(h:HtOk n t o r d i):Byt (htB n t o r d i):=by
  have hi:0≤i∧i<64:=h.1
  cases n with
  | true=>intro z hz;simp[htB]at hz;omega
  | false=>
    have ho : zcd t o r d := by rcases h.2 with h | h; · cases h.1
                                exact h.2
    have hoo:0≤o∧o<64:=ho.2.2.1
    have hr:0≤r∧r<256:=by have:=ho.2.2.2.1;omega
    exact zaS (zaS (zaS (zaS (by intro z hz;simp at hz;omega) (zev t)) (by intro z hz;simp at hz;rcases hz with rfl|rfl<;>omega)) (zev d)) (by intro z hz;simp at hz;omega)
theorem zgp (n:Bool)(t o r d i:Int):(htB n t o r d i).length≤20:=by
 cases n<;>simp[htB,zca]
theorem zhq {n:Bool}{t o r d i:Int}(h:HtOk n t o r d i)(w:World):Calls Tryz.prog 133 #[.agg (xB n t o r d i)] w (RetB (htB n t o r d i) 0 w):=by
 have:=zkj n t o r d i w
 rwa [htBs,if_pos h,zb9 h]at this
theorem zcQ (w:World)(a0 a1 a2 a3:Bool):∃V0 V:World,w.alloc (.cells #[.bool false,.bool false,.bool false,.bool false] 182)=V0∧(xC V0 w.heap.size #[.bool a0,.bool a1,.bool a2,.bool a3] : World)=V∧
  Cells4 V0 w.heap.size false false false false∧(∀j,V0.frozen? ⟨w.heap.size,j,none⟩=false)∧Cells4 V w.heap.size a0 a1 a2 a3∧Below w.heap.size w V∧w.heap.size<V.heap.size:=by
 have c:Cells4 (w.alloc (.cells #[.bool false,.bool false,.bool false,.bool false] 182)) w.heap.size false false false false:=by
  refine⟨?_,?_,?_,?_⟩<;>simp
 refine⟨_,_,rfl,rfl,c,by intro j;simp,?_,?_,by simp⟩
 ·obtain⟨c0,c1,c2,c3⟩:=c
  refine⟨?_,?_,?_,?_⟩<;>simp[go_sem]
 ·exact((((xr.alloc xl _).setCell xl _).setCell xl _).setCell xl _).setCell xl _
theorem Cells12.allocs {w:World}{b:Nat}{k x:Int}{n:Bool}{t o r d i p q s m:Int}(h:Cells12 w b k x n t o r d i p q s m):(∀O,(w.alloc O).cell? (xQ b 0)=xJ k)∧(∀O,(w.alloc O).cell? (xQ b 1)=xJ x)∧(∀O,(w.alloc O).cell? (xQ b 2)=some (.bool n))∧(∀O,(w.alloc O).cell? (xQ b 3)=xJ t)∧(∀O,(w.alloc O).cell? (xQ b 4)=xJ o)∧(∀O,(w.alloc O).cell? (xQ b 5)=xJ r)∧(∀O,(w.alloc O).cell? (xQ b 6)=xJ d)∧(∀O,(w.alloc O).cell? (xQ b 7)=xJ i)∧(∀O,(w.alloc O).cell? (xQ b 8)=xJ p)∧(∀O,(w.alloc O).cell? (xQ b 9)=xJ q)∧(∀O,(w.alloc O).cell? (xQ b 10)=xJ s)∧(∀O,(w.alloc O).cell? (xQ b 11)=xJ m):=by
 have f:∀O,Cells12 (w.alloc O) b k x n t o r d i p q s m:=fun O=>h.below (xr.alloc xl O)
 exact⟨fun O=>(f O).1,fun O=>(f O).2.1,fun O=>(f O).2.2.1,fun O=>(f O).2.2.2.1,fun O=>(f O).2.2.2.2.1,fun O=>(f O).2.2.2.2.2.1,fun O=>(f O).2.2.2.2.2.2.1,fun O=>(f O).2.2.2.2.2.2.2.1,fun O=>(f O).2.2.2.2.2.2.2.2.1,fun O=>(f O).2.2.2.2.2.2.2.2.2.1,fun O=>(f O).2.2.2.2.2.2.2.2.2.2.1,fun O=>(f O).2.2.2.2.2.2.2.2.2.2.2⟩
theorem Cells4.allocs {w:World}{b:Nat}{a0 a1 a2 a3:Bool}(h:Cells4 w b a0 a1 a2 a3):(∀O,(w.alloc O).cell? (xQ b 0)=some (.bool a0))∧(∀O,(w.alloc O).cell? (xQ b 1)=some (.bool a1))∧(∀O,(w.alloc O).cell? (xQ b 2)=some (.bool a2))∧(∀O,(w.alloc O).cell? (xQ b 3)=some (.bool a3)):=by
 have f:∀O,Cells4 (w.alloc O) b a0 a1 a2 a3:=fun O=>h.below (xr.alloc xl O)
 exact⟨fun O=>(f O).1,fun O=>(f O).2.1,fun O=>(f O).2.2.1,fun O=>(f O).2.2.2⟩
theorem Cells4.old {w w':World}{b B:Nat}{a0 a1 a2 a3:Bool}(h:Cells4 w b a0 a1 a2 a3)(hb:Below B w w')(hB:b<B):Cells4 w' b a0 a1 a2 a3:=by
 obtain⟨h0,h1,h2,h3⟩:=h
 have f:∀{j:Nat} {v:Value},w.cell? ⟨b,j,none⟩=some v→w'.cell? ⟨b,j,none⟩=some v:=fun{j v} h=>by rw[hb.cell (p:=⟨b,j,none⟩) hB];exact h
 exact⟨f h0,f h1,f h2,f h3⟩
theorem zkc (k x:Int)(n:Bool)(t o r d i p q s m:Int)(w:World)(h:¬ObOk k x n t o r d i p q s m):Calls Tryz.prog 103 #[.agg (xO k x n t o r d i p q s m)] w (RetB [] 1 w):=by
 have hc:=zc1 h
 clear h
 go_enter Tryz.func103,Tryz.ntmps103
 go_wp2_with (go_at_call 130;refine(zaK _ _ _ _ _ _ _ _ _ _ _ _ _).mono ?_;rintro e w' ⟨rfl,hb⟩;rw[hc];have HB:Hid (Below w.heap.size w w'):=(xr.alloc xl _).trans (hb.mono (by simp));clear hb)
 go_ret2
 exact⟨_,rfl,zd0 _,HB.out⟩
theorem zmg (x:Int)(n:Bool)(t o r d i p q s m:Int)(w:World)(h:ObOk 1 x n t o r d i p q s m):Calls Tryz.prog 103 #[.agg (xO 1 x n t o r d i p q s m)] w (RetB (obB 1 x n t o r d i p q s m) 0 w):=by
 have hc:=zb1 h
 have hx:0≤x∧x<64:=h.2.1
 have hwx:IntKind.u8.wrap x=x:=by rw[IntKind.wrap_u8];omega
 have hwk:IntKind.u8.wrap 1=1:=by decide
 have hp:zbK 1=.agg #[.bool true,.bool false,.bool false,.bool false]:=rfl
 clear h
 go_enter Tryz.func103,Tryz.ntmps103
 go_wp2_with (first
  | (go_at_call 130;refine(zaK _ _ _ _ _ _ _ _ _ _ _ _ _).mono ?_;rintro e w0 ⟨rfl,hb⟩;rw[hc];have K:=xh ((zak w 1 x n t o r d i p q s m 63).below hb);have HB:Hid (Below w.heap.size w w0):=(xr.alloc xl _).trans (hb.mono (by simp));have HL:Hid (w.heap.size<w0.heap.size):=Nat.lt_of_lt_of_le (by simp) hb.size;clear hb;have⟨c0,c1,c2,c3,c4,c5,c6,c7,c8,c9,c10,c11⟩:=K.out)
  | (go_at_call 131;refine(za3 1 _).mono ?_;rintro e w1 ⟨rfl,hb⟩;rw[hp];obtain⟨V0,V,h0,hV,⟨z0,z1,z2,z3⟩,zf,hP,hb2,hs2⟩:=zcQ w1 true false false false;replace K:=xh ((K.out.below hb).below hb2);replace HB:=xh ((HB.out.trans (hb.mono HB.out.size)).trans (hb2.mono (Nat.le_trans HB.out.size hb.size)));have HL1:Hid (w.heap.size<V.heap.size):=Nat.lt_of_lt_of_le HL.out (Nat.le_trans hb.size hb2.size);have HL2:Hid (w1.heap.size<V.heap.size):=hs2;clear c0 c1 c2 c3 c4 c5 c6 c7 c8 c9 c10 c11 hb hb2 hs2 HL;have⟨c0,c1,c2,c3,c4,c5,c6,c7,c8,c9,c10,c11⟩:=K.out;have⟨g0,g1,g2,g3,g4,g5,g6,g7,g8,g9,g10,g11⟩:=K.out.allocs;have⟨p0,p1,p2,p3⟩:=hP;have⟨a0,a1,a2,a3⟩:=hP.allocs;replace hP:=xh hP))
 go_ret2
 refine⟨_,rfl,?_,(HB.out.alloc HB.out.size _)⟩
 exact zcl V 1 x (by omega) (by omega) _ rfl
theorem zlZ (x:Int)(n:Bool)(t o r d i p q s m:Int)(w:World)(h:ObOk 2 x n t o r d i p q s m):Calls Tryz.prog 103 #[.agg (xO 2 x n t o r d i p q s m)] w (RetB (obB 2 x n t o r d i p q s m) 0 w):=by
 have hc:=zb1 h
 have hx:0≤x∧x<64:=h.2.1
 have hwx:IntKind.u8.wrap x=x:=by rw[IntKind.wrap_u8];omega
 have hwk:IntKind.u8.wrap 2=2:=by decide
 have hp:zbK 2=.agg #[.bool true,.bool false,.bool true,.bool false]:=rfl
 have hh:HtOk n t o r d i:=h.2.2.2.2.1
 have hbt:=xh (zdI hh)
 have hle:=zgp n t o r d i
 have cB:=zhq hh
 clear hh
 clear h
 go_enter Tryz.func103,Tryz.ntmps103
 go_wp2_with (first
  | (go_at_call 130;refine(zaK _ _ _ _ _ _ _ _ _ _ _ _ _).mono ?_;rintro e w0 ⟨rfl,hb⟩;rw[hc];have K:=xh ((zak w 2 x n t o r d i p q s m 63).below hb);have HB:Hid (Below w.heap.size w w0):=(xr.alloc xl _).trans (hb.mono (by simp));have HL:Hid (w.heap.size<w0.heap.size):=Nat.lt_of_lt_of_le (by simp) hb.size;clear hb;have⟨c0,c1,c2,c3,c4,c5,c6,c7,c8,c9,c10,c11⟩:=K.out)
  | (go_at_call 131;refine(za3 2 _).mono ?_;rintro e w1 ⟨rfl,hb⟩;rw[hp];obtain⟨V0,V,h0,hV,⟨z0,z1,z2,z3⟩,zf,hP,hb2,hs2⟩:=zcQ w1 true false true false;replace K:=xh ((K.out.below hb).below hb2);replace HB:=xh ((HB.out.trans (hb.mono HB.out.size)).trans (hb2.mono (Nat.le_trans HB.out.size hb.size)));have HL1:Hid (w.heap.size<V.heap.size):=Nat.lt_of_lt_of_le HL.out (Nat.le_trans hb.size hb2.size);have HL2:Hid (w1.heap.size<V.heap.size):=hs2;clear c0 c1 c2 c3 c4 c5 c6 c7 c8 c9 c10 c11 hb hb2 hs2 HL;have⟨c0,c1,c2,c3,c4,c5,c6,c7,c8,c9,c10,c11⟩:=K.out;have⟨g0,g1,g2,g3,g4,g5,g6,g7,g8,g9,g10,g11⟩:=K.out.allocs;have⟨p0,p1,p2,p3⟩:=hP;have⟨a0,a1,a2,a3⟩:=hP.allocs;replace hP:=xh hP)
  | (go_at_call 133;refine(cB _).mono ?_;rintro e w2 ⟨r2,rfl,hr2,hb⟩;have O2:=xh (zaM (zcj V V.heap.size 2 x xl _ rfl) hb);have R2:Hid (Bs w2 r2 (htB n t o r d i)):=hr2;have Hw2:Hid (Below V.heap.size V w2):=((Below.refl _ V).alloc xl _).trans (hb.mono (by simp));have Kw2:=xh (K.out.old Hw2.out HL1.out);have⟨cw20,cw21,cw22,cw23,cw24,cw25,cw26,cw27,cw28,cw29,cw210,cw211⟩:=Kw2.out;have⟨pw20,pw21,pw22,pw23⟩:=hP.out.old Hw2.out HL2.out;clear hb hr2)
  | (at_builtin;refine za7 rfl (.tmp 53) (.tmp 54) rfl V.heap.size [2,x] (htB n t o r d i) O2.out R2.out (by simp;omega) Hw2.out.size ?_;intro v3 w3 hown3 hb3 hs3;have O3:=xh hown3;have Hw3:=xh (Hw2.out.trans hb3);have Kw3:=xh (K.out.old Hw3.out HL1.out);have⟨cw30,cw31,cw32,cw33,cw34,cw35,cw36,cw37,cw38,cw39,cw310,cw311⟩:=Kw3.out;have⟨pw30,pw31,pw32,pw33⟩:=hP.out.old Hw3.out HL2.out;clear hown3 hb3 hs3))
 go_ret2
 refine⟨_,rfl,?_,HB.out.trans (Hw3.out.mono HB.out.size)⟩
 exact zaq O3.out (zaS (by intro z hz;simp at hz;rcases hz with rfl|rfl<;>omega) hbt.out) (show([2,x]++htB n t o r d i).length≤_ by simp;omega)
theorem zkZ (x:Int)(n:Bool)(t o r d i p q s m:Int)(w:World)(h:ObOk 3 x n t o r d i p q s m):Calls Tryz.prog 103 #[.agg (xO 3 x n t o r d i p q s m)] w (RetB (obB 3 x n t o r d i p q s m) 0 w):=by
  have hc:=zb1 h
  have hx:0≤x∧x<64:=h.2.1
  have hwx:IntKind.u8.wrap x=x:=by rw[IntKind.wrap_u8];omega
  have hwk:IntKind.u8.wrap 3=3:=by decide
  have hp:zbK 3=.agg #[.bool true,.bool true,.bool false,.bool false]:=rfl
  have hl:HtOk false p q s 0 0:=h.2.2.2.1
  have hr : zcd p q s 0 := by rcases hl.2 with h | h; · cases h.1
                              exact h.2
  have hq:0≤q∧q<64:=hr.2.2.1
  have hs:0≤s∧s<256:=by have:=hr.2.2.2.1;omega
  have hwq:IntKind.u8.wrap q=q:=by rw[IntKind.wrap_u8];omega
  have hws:IntKind.u8.wrap s=s:=by rw[IntKind.wrap_u8];omega
  have l8:=zca
  clear hl hr
  clear h
  go_enter Tryz.func103,Tryz.ntmps103
  go_wp2_with (first
    | (go_at_call 130;refine(zaK _ _ _ _ _ _ _ _ _ _ _ _ _).mono ?_;rintro e w0 ⟨rfl,hb⟩;rw[hc];have K:=xh ((zak w 3 x n t o r d i p q s m 63).below hb);have HB:Hid (Below w.heap.size w w0):=(xr.alloc xl _).trans (hb.mono (by simp));have HL:Hid (w.heap.size<w0.heap.size):=Nat.lt_of_lt_of_le (by simp) hb.size;clear hb;have⟨c0,c1,c2,c3,c4,c5,c6,c7,c8,c9,c10,c11⟩:=K.out)
    | (go_at_call 131;refine(za3 3 _).mono ?_;rintro e w1 ⟨rfl,hb⟩;rw[hp];obtain⟨V0,V,h0,hV,⟨z0,z1,z2,z3⟩,zf,hP,hb2,hs2⟩:=zcQ w1 true true false false;replace K:=xh ((K.out.below hb).below hb2);replace HB:=xh ((HB.out.trans (hb.mono HB.out.size)).trans (hb2.mono (Nat.le_trans HB.out.size hb.size)));have HL1:Hid (w.heap.size<V.heap.size):=Nat.lt_of_lt_of_le HL.out (Nat.le_trans hb.size hb2.size);have HL2:Hid (w1.heap.size<V.heap.size):=hs2;clear c0 c1 c2 c3 c4 c5 c6 c7 c8 c9 c10 c11 hb hb2 hs2 HL;have⟨c0,c1,c2,c3,c4,c5,c6,c7,c8,c9,c10,c11⟩:=K.out;have⟨g0,g1,g2,g3,g4,g5,g6,g7,g8,g9,g10,g11⟩:=K.out.allocs;have⟨p0,p1,p2,p3⟩:=hP;have⟨a0,a1,a2,a3⟩:=hP.allocs;replace hP:=xh hP)
    | (go_at_call 132;refine(zgD p _).mono ?_;rintro e w2 ⟨r2,rfl,hr2,hb⟩;have O2:=xh (zaM (zcj V V.heap.size 3 x xl _ rfl) hb);have R2:Hid (Bs w2 r2 (i8 p)):=hr2;have Hw2:Hid (Below V.heap.size V w2):=((Below.refl _ V).alloc xl _).trans (hb.mono (by simp));have Kw2:=xh (K.out.old Hw2.out HL1.out);have⟨cw20,cw21,cw22,cw23,cw24,cw25,cw26,cw27,cw28,cw29,cw210,cw211⟩:=Kw2.out;have⟨pw20,pw21,pw22,pw23⟩:=hP.out.old Hw2.out HL2.out;clear hb hr2)
    | (at_builtin;refine za7 rfl (.tmp 28) (.tmp 32) rfl V.heap.size [3,x] (i8 p) O2.out R2.out (by simp[l8]) Hw2.out.size ?_;intro v3 w3 hown3 hb3 hs3;have O3:=xh hown3;have Hw3:=xh (Hw2.out.trans hb3);have Kw3:=xh (K.out.old Hw3.out HL1.out);have⟨cw30,cw31,cw32,cw33,cw34,cw35,cw36,cw37,cw38,cw39,cw310,cw311⟩:=Kw3.out;have⟨pw30,pw31,pw32,pw33⟩:=hP.out.old Hw3.out HL2.out;clear hown3 hb3 hs3)
    | (at_builtin;refine za7 rfl (.tmp 34) (.tmp 43) rfl V.heap.size ([3,x]++i8 p) [q,s] (O3.out.alloc _) (zcl w3 q s (by omega) hs _ rfl) (by simp[l8]) (Nat.le_trans Hw3.out.size (by simp)) ?_;intro v4 w4 hown4 hb4 hs4;have O4:=xh hown4;have Hw4:=xh ((Hw3.out.alloc Hw3.out.size _).trans hb4);have Kw4:=xh (K.out.old Hw4.out HL1.out);have⟨cw40,cw41,cw42,cw43,cw44,cw45,cw46,cw47,cw48,cw49,cw410,cw411⟩:=Kw4.out;have⟨pw40,pw41,pw42,pw43⟩:=hP.out.old Hw4.out HL2.out;clear hown4 hb4 hs4))
  go_ret2
  refine⟨_,rfl,?_,HB.out.trans (Hw4.out.mono HB.out.size)⟩
  exact zaq O4.out (zaS (zaS (by intro z hz;simp at hz;rcases hz with rfl|rfl<;>omega) (zev p)) (by intro z hz;simp at hz;rcases hz with rfl|rfl<;>omega)) (show([3,x]++i8 p++[q,s]).length≤_ by simp[l8])
theorem zk3 (x:Int)(n:Bool)(t o r d i p q s m:Int)(w:World)(h:ObOk 4 x n t o r d i p q s m):Calls Tryz.prog 103 #[.agg (xO 4 x n t o r d i p q s m)] w (RetB (obB 4 x n t o r d i p q s m) 0 w):=by
 have hc:=zb1 h
 have hx:0≤x∧x<64:=h.2.1
 have hwx:IntKind.u8.wrap x=x:=by rw[IntKind.wrap_u8];omega
 have hwk:IntKind.u8.wrap 4=4:=by decide
 have hp:zbK 4=.agg #[.bool true,.bool false,.bool true,.bool true]:=rfl
 have hh:HtOk n t o r d i:=h.2.2.2.2.1
 have hbt:=xh (zdI hh)
 have hle:=zgp n t o r d i
 have cB:=zhq hh
 clear hh
 have hm:0≤m∧m≤65535:=h.2.2.2.2.2
 have cP:=zoj hm
 clear h
 go_enter Tryz.func103,Tryz.ntmps103
 go_wp2_with (first
  | (go_at_call 130;refine(zaK _ _ _ _ _ _ _ _ _ _ _ _ _).mono ?_;rintro e w0 ⟨rfl,hb⟩;rw[hc];have K:=xh ((zak w 4 x n t o r d i p q s m 63).below hb);have HB:Hid (Below w.heap.size w w0):=(xr.alloc xl _).trans (hb.mono (by simp));have HL:Hid (w.heap.size<w0.heap.size):=Nat.lt_of_lt_of_le (by simp) hb.size;clear hb;have⟨c0,c1,c2,c3,c4,c5,c6,c7,c8,c9,c10,c11⟩:=K.out)
  | (go_at_call 131;refine(za3 4 _).mono ?_;rintro e w1 ⟨rfl,hb⟩;rw[hp];obtain⟨V0,V,h0,hV,⟨z0,z1,z2,z3⟩,zf,hP,hb2,hs2⟩:=zcQ w1 true false true true;replace K:=xh ((K.out.below hb).below hb2);replace HB:=xh ((HB.out.trans (hb.mono HB.out.size)).trans (hb2.mono (Nat.le_trans HB.out.size hb.size)));have HL1:Hid (w.heap.size<V.heap.size):=Nat.lt_of_lt_of_le HL.out (Nat.le_trans hb.size hb2.size);have HL2:Hid (w1.heap.size<V.heap.size):=hs2;clear c0 c1 c2 c3 c4 c5 c6 c7 c8 c9 c10 c11 hb hb2 hs2 HL;have⟨c0,c1,c2,c3,c4,c5,c6,c7,c8,c9,c10,c11⟩:=K.out;have⟨g0,g1,g2,g3,g4,g5,g6,g7,g8,g9,g10,g11⟩:=K.out.allocs;have⟨p0,p1,p2,p3⟩:=hP;have⟨a0,a1,a2,a3⟩:=hP.allocs;replace hP:=xh hP)
  | (go_at_call 133;refine(cB _).mono ?_;rintro e w2 ⟨r2,rfl,hr2,hb⟩;have O2:=xh (zaM (zcj V V.heap.size 4 x xl _ rfl) hb);have R2:Hid (Bs w2 r2 (htB n t o r d i)):=hr2;have Hw2:Hid (Below V.heap.size V w2):=((Below.refl _ V).alloc xl _).trans (hb.mono (by simp));have Kw2:=xh (K.out.old Hw2.out HL1.out);have⟨cw20,cw21,cw22,cw23,cw24,cw25,cw26,cw27,cw28,cw29,cw210,cw211⟩:=Kw2.out;have⟨pw20,pw21,pw22,pw23⟩:=hP.out.old Hw2.out HL2.out;clear hb hr2)
  | (at_builtin;refine za7 rfl (.tmp 53) (.tmp 54) rfl V.heap.size [4,x] (htB n t o r d i) O2.out R2.out (by simp;omega) Hw2.out.size ?_;intro v3 w3 hown3 hb3 hs3;have O3:=xh hown3;have Hw3:=xh (Hw2.out.trans hb3);have Kw3:=xh (K.out.old Hw3.out HL1.out);have⟨cw30,cw31,cw32,cw33,cw34,cw35,cw36,cw37,cw38,cw39,cw310,cw311⟩:=Kw3.out;have⟨pw30,pw31,pw32,pw33⟩:=hP.out.old Hw3.out HL2.out;clear hown3 hb3 hs3)
  | (go_at_call 42;refine(cP _).mono ?_;rintro e w4 ⟨r4,rfl,hr4,hb⟩;have O4:=xh (zaM O3.out hb);have R4:Hid (Bs w4 r4 [m/256,m%256]):=hr4;have Hw4:=xh (Hw3.out.trans (hb.mono Hw3.out.size));have Kw4:=xh (K.out.old Hw4.out HL1.out);have⟨cw40,cw41,cw42,cw43,cw44,cw45,cw46,cw47,cw48,cw49,cw410,cw411⟩:=Kw4.out;have⟨pw40,pw41,pw42,pw43⟩:=hP.out.old Hw4.out HL2.out;clear hb hr4)
  | (at_builtin;refine za7 rfl (.tmp 64) (.tmp 65) rfl V.heap.size ([4,x]++htB n t o r d i) [m/256,m%256] O4.out R4.out (by simp;omega) Hw4.out.size ?_;intro v5 w5 hown5 hb5 hs5;have O5:=xh hown5;have Hw5:=xh (Hw4.out.trans hb5);clear hown5 hb5 hs5))
 go_ret2
 refine⟨_,rfl,?_,HB.out.trans (Hw5.out.mono HB.out.size)⟩
 exact zaq O5.out (zaS (zaS (by intro z hz;simp at hz;rcases hz with rfl|rfl<;>omega) hbt.out) (by intro z hz;simp at hz;rcases hz with rfl|rfl<;>omega)) (show([4,x]++htB n t o r d i++[m/256,m%256]).length≤_ by simp;omega)
theorem zhF {w:World}{v:Value}{xs:List Int}(h:Bs w v xs):∃a c,v=.slice a xs.length c:=by
 obtain⟨_,_,⟨a,c,h,_,rfl⟩|⟨b,o,c,h,_⟩⟩:=h
 ·exact⟨_,_,h⟩
 ·exact⟨_,_,h⟩
theorem zdA {k x:Int}{n:Bool}{t o r d i p q s m:Int}(h:ObOk k x n t o r d i p q s m):k=1∨k=2∨k=3∨k=4:=by
 have:=h.1
 simp only[kn,Bool.or_eq_true,beq_iff_eq]at this
 exact this
theorem ze3 (k x:Int)(n:Bool)(t o r d i p q s m:Int)(w:World):Calls Tryz.prog 103 #[.agg (xO k x n t o r d i p q s m)] w (RetB (obBs k x n t o r d i p q s m) (obc k x n t o r d i p q s m) w):=by
 by_cases h:ObOk k x n t o r d i p q s m
 ·rw[obBs,if_pos h,zb1 h]
  rcases zdA h with rfl|rfl|rfl|rfl
  ·exact zmg x n t o r d i p q s m w h
  ·exact zlZ x n t o r d i p q s m w h
  ·exact zkZ x n t o r d i p q s m w h
  ·exact zk3 x n t o r d i p q s m w h
 ·rw[obBs,if_neg h,zc1 h]
  exact zkc k x n t o r d i p q s m w h
theorem zjn (k x:Int)(n:Bool)(t o r d i p q s m:Int)(w:World):Calls Tryz.prog 146 #[.agg (xO k x n t o r d i p q s m)] w fun e w'=>e=.returned (xI (obBs k x n t o r d i p q s m).length)∧Below w.heap.size w w':=by
 have cB:∀w,Calls Tryz.prog 103 #[.agg (xO k x n t o r d i p q s m)] w (RetB (obBs k x n t o r d i p q s m) (obc k x n t o r d i p q s m) w):=fun w=>ze3 k x n t o r d i p q s m w
 generalize obBs k x n t o r d i p q s m=xs at*
 generalize obc k x n t o r d i p q s m=c at*
 go_enter Tryz.func146,Tryz.ntmps146
 go_wp2_with (go_at_call 103;refine(cB _).mono ?_;rintro e w' ⟨r1,rfl,hr1,hb⟩;have HB:Hid (Below w.heap.size w w'):=(xr.alloc xl _).trans (hb.mono (by simp));clear hb;obtain⟨a1,c1,rfl⟩:∃a1 c1,r1=.slice a1 xs.length c1:=zhF hr1;clear hr1)
 go_ret
 exact⟨rfl,HB.out⟩
end
end Go.Proofs.YtjghebcnmoojmaaGreat
