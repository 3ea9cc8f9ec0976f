/- A height as bytes. Objects as arguments: Two objects: The reference's Put, in a row of the call's own. Packets: A packet's bytes: A packet out of bytes, as the  -/
import Derived.Test.YtjghebcnmoojmaaGreatV05
import Derived.ChangeKeysEq
import Derived.Lib.ConvBytes
set_option maxRecDepth 100000
set_option maxHeartbeats 32000000
namespace Go.Proofs.YtjghebcnmoojmaaGreat
open Go.RowKit MX
section
open Go.Sort
theorem zaM {w w':World}{base size n:Nat}{e:TypeId}{v:Value}{xs:List Value}(h:w.ownsRow base e size v n xs)(hb:Below w.heap.size w w'):w'.ownsRow base e size v n xs:=by
 obtain⟨h1,h2|⟨g,cap,cur,h2,h3,h4,h5⟩⟩:=h
 ·exact⟨h1,.inl h2⟩
 ·refine⟨h1,.inr ⟨g,cap,cur,h2,h3,?_,h5⟩⟩
  rw[hb.block g (Array.getElem?_eq_some_iff.1 h4).1];exact h4
def Byt (xs:List Int):Prop:=∀x∈xs,0≤x∧x<256
theorem zaS {xs ys:List Int}(h:Byt xs)(h':Byt ys):Byt (xs++ys):=fun x hx=>by
 rcases List.mem_append.1 hx with hx|hx
 ·exact h x hx
 ·exact h' x hx
theorem za7 {ops:Array Oper}{rest:List Oper}{o:Oper}{a:Act}{Q:Exit→Act→World→Prop}{w:World}(hgd:o.guard=none)(s x:Operand)
  (ho:o.op=.call {callee:=.builtin .append,args:=#[s,x],argTypes:=#[26,26]}) (base:Nat) (xs ys:List Int)
  (hown:w.ownsRow base 5 1 (a.eval s) xs.length (xs.map (Value.int .u8))) (hx:Bs w (a.eval x) ys) (h63:xs.length+ys.length≤1000) (hbase:base≤w.heap.size)
  (h:∀v' w',w'.ownsRow base 5 1 v' (xs++ys).length ((xs++ys).map (Value.int .u8))→Below base w w'→w.heap.size≤w'.heap.size→wpList Tryz.prog ops Q rest (a.put o.dst v') w'):wpList Tryz.prog ops Q (o::rest) a w:=by
 obtain⟨i0,hi,hz0,hz1,hz2⟩:=info_parts Tryz.info5
 obtain⟨_,_,⟨ad,cap,hv,hz,rfl⟩|⟨b,off,cap,hv,hcap,hcs⟩⟩:=hx
 ·cases ad with
  | none=>
   obtain rfl:cap=0:=hz rfl
   refine wpList_append_own_none hgd s x 26 ho base 5 i0 1 Tryz.underlying26 hi _ _ _ rfl hown hv ?_
   rw[List.append_nil]at h
   exact h _ _ hown xr xl
  | some ad=>
   refine wpList_append_own w hgd s x 26 ho base 5 i0 (.int .u8 0) 1 1 Tryz.underlying26 hi hz0 hz1 hz2 rfl (by decide) _ _ _ rfl hown ad 0 cap [] hv (by simp) (by simp) (by simp) (by unfold maxLen;omega) (by omega) hbase fun v' w1 hown1 hgrow _=>?_
   refine h v' w1 (by simpa using hown1) (xr.grown hgrow hbase (fun k hk=>(hown.lt k hk).1)) hgrow.size
 ·refine wpList_append_own w hgd s x 26 ho base 5 i0 (.int .u8 0) 1 1 Tryz.underlying26 hi hz0 hz1 hz2 rfl (by decide) _ _ _ rfl hown ⟨b,off,none⟩ ys.length cap (ys.map (Value.int .u8)) hv (by simp) (zdD hcs) (ones ys) (by unfold maxLen;omega) (by omega) hbase fun v' w1 hown1 hgrow _=>?_
  refine h v' w1 ?_ (xr.grown hgrow hbase (fun k hk=>(hown.lt k hk).1)) hgrow.size
  rw[List.length_append,List.map_append];exact hown1
theorem zck (w:World)(base:Nat)(x:Int)(hb:base≤w.heap.size)(g:Nat)(hg:g=w.heap.size):(w.alloc (.cells #[.int .u8 x] 5)).ownsRow base 5 1 (.slice (some (xQ g 0)) 1 1) [x].length ([x].map (Value.int .u8)):=by
 subst hg
 exact World.ownsRow_lit w #[.int .u8 x] 1 hb (by unfold maxLen;omega) rfl
theorem zdC (w:World)(x:Int)(hx:0≤x∧x<256)(g:Nat)(hg:g=w.heap.size):Bs (w.alloc (.cells #[.int .u8 x] 5)) (.slice (some (xQ g 0)) 1 1) [x]:=
 zaq (zck w 0 x (Nat.zero_le _) g hg) (by simpa using hx) (by simp)
theorem zcj (w:World)(base:Nat)(x y:Int)(hb:base≤w.heap.size)(g:Nat)(hg:g=w.heap.size):(w.alloc (.cells #[.int .u8 x,.int .u8 y] 5)).ownsRow base 5 1 (.slice (some (xQ g 0)) 2 2) [x,y].length ([x,y].map (Value.int .u8)):=by
 subst hg
 exact World.ownsRow_lit w #[.int .u8 x,.int .u8 y] 2 hb (by unfold maxLen;omega) rfl
theorem zcl (w:World)(x y:Int)(hx:0≤x∧x<256)(hy:0≤y∧y<256)(g:Nat)(hg:g=w.heap.size):Bs (w.alloc (.cells #[.int .u8 x,.int .u8 y] 5)) (.slice (some (xQ g 0)) 2 2) [x,y]:=
 zaq (zcj w 0 x y (Nat.zero_le _) g hg) (by intro z hz;simp at hz;rcases hz with rfl|rfl<;>assumption) (by simp)
def i8 (v:Int):List Int:=lo (IntKind.u64.wrap v) 8
theorem zev (v:Int):Byt (i8 v):=fun x hx=>by
 obtain⟨k,_,rfl⟩:=List.mem_map.1 hx
 omega
theorem zca (v:Int):(i8 v).length=8:=by simp[i8,lo]
def htB (n:Bool)(t o r d i:Int):List Int:=if n then[0,i]else[1]++i8 t++[o,r]++i8 d++[i]
def RetB (xs:List Int)(err:Int)(w:World)(e:Ending)(w':World):Prop:=∃v,e=.returned (.tuple #[v,xI err])∧Bs w' v xs∧Below w.heap.size w w'
def htBs (n:Bool)(t o r d i:Int):List Int:=if HtOk n t o r d i then htB n t o r d i else[]
theorem Cells6.old {w w':World}{b B:Nat}{n:Bool}{t o r d i:Int}(h:Cells6 w b n t o r d i)(hb:Below B w w')(hB:b<B):Cells6 w' b n t o r d i:=by
 obtain⟨h0,h1,h2,h3,h4,h5⟩:=h
 have k:∀{j:Nat} {v:Value},w.cell? ⟨b,j,none⟩=some v→w'.cell? ⟨b,j,none⟩=some v:=fun{j v} h=>by rw[hb.cell (p:=⟨b,j,none⟩) hB];exact h
 exact⟨k h0,k h1,k h2,k h3,k h4,k h5⟩
theorem Cells6.allocs {w:World}{b:Nat}{n:Bool}{t o r d i:Int}(h:Cells6 w b n t o r d i):(∀O,(w.alloc O).cell? (xQ b 0)=some (.bool n))∧(∀O,(w.alloc O).cell? (xQ b 1)=xJ t)∧(∀O,(w.alloc O).cell? (xQ b 2)=xJ o)∧(∀O,(w.alloc O).cell? (xQ b 3)=xJ r)∧(∀O,(w.alloc O).cell? (xQ b 4)=xJ d)∧(∀O,(w.alloc O).cell? (xQ b 5)=xJ i):=by
 have k:∀O,Cells6 (w.alloc O) b n t o r d i:=fun O=>h.below (xr.alloc xl O)
 exact⟨fun O=>(k O).1,fun O=>(k O).2.1,fun O=>(k O).2.2.1,fun O=>(k O).2.2.2.1,fun O=>(k O).2.2.2.2.1,fun O=>(k O).2.2.2.2.2⟩
theorem zlM (n:Bool)(t o r d i:Int)(w:World)(h:¬HtOk n t o r d i):Calls Tryz.prog 133 #[.agg (xB n t o r d i)] w (RetB [] 1 w):=by
 have hc:=zc0 h
 clear h
 go_enter Tryz.func133,Tryz.ntmps133
 go_wp2_with (go_at_call 151;refine(zbe _ _ _ _ _ _ _).mono ?_;rintro e w' ⟨rfl,hb⟩;rw[hc];have HB:Hid (Below w.heap.size w w'):=(xr.alloc xl _).trans (hb.mono (by simp));clear hb)
 go_ret2
 exact⟨_,rfl,zd0 _,HB.out⟩
theorem ziJ (t o r d i:Int)(w:World)(h:HtOk true t o r d i):Calls Tryz.prog 133 #[.agg (xB true t o r d i)] w (RetB [0,i] 0 w):=by
 have hc:=zb9 h
 have hi:0≤i∧i<64:=h.1
 have hw:IntKind.u8.wrap i=i:=by rw[IntKind.wrap_u8];omega
 clear h
 go_enter Tryz.func133,Tryz.ntmps133
 go_wp2_with (go_at_call 151;refine(zbe _ _ _ _ _ _ _).mono ?_;rintro e w' ⟨rfl,hb⟩;rw[hc];have⟨c0,c1,c2,c3,c4,c5⟩:=(zaU w true t o r d i 59).below hb;have HB:Hid (Below w.heap.size w w'):=(xr.alloc xl _).trans (hb.mono (by simp));clear hb)
 go_ret2
 exact⟨_,rfl,zcl _ _ _ (by omega) (by omega) _ rfl,HB.out.alloc HB.out.size _⟩
theorem zjy (t o r d i:Int)(w:World)(h:HtOk false t o r d i):Calls Tryz.prog 133 #[.agg (xB false t o r d i)] w (RetB (htB false t o r d i) 0 w):=by
  have hc:=zb9 h
  have hi:0≤i∧i<64:=h.1
  have ho : zcd t o r d := by rcases h.2 with h | h; · cases h.1
                              exact h.2
  have hoo:0≤o∧o<64:=ho.2.2.1
  have hr:0≤r∧r<256:=by have:=ho.2.2.2.1;omega
  have hw:IntKind.u8.wrap i=i:=by rw[IntKind.wrap_u8];omega
  have hwo:IntKind.u8.wrap o=o:=by rw[IntKind.wrap_u8];omega
  have hwr:IntKind.u8.wrap r=r:=by rw[IntKind.wrap_u8];omega
  clear h ho
  have l8:=zca
  go_enter Tryz.func133,Tryz.ntmps133
  go_wp2_with (first
    | (go_at_call 151;refine(zbe _ _ _ _ _ _ _).mono ?_;rintro e w0 ⟨rfl,hb⟩;rw[hc];have K0:Hid (Cells6 w0 w.heap.size false t o r d i):=(zaU w false t o r d i 59).below hb;have⟨c0,c1,c2,c3,c4,c5⟩:=K0.out;have⟨a0,a1,a2,a3,a4,a5⟩:=K0.out.allocs;have HB:Hid (Below w.heap.size w w0):=(xr.alloc xl _).trans (hb.mono (by simp));have HL:Hid (w.heap.size<w0.heap.size):=Nat.lt_of_lt_of_le (by simp) hb.size;clear hb)
    | (go_at_call 132;refine(zgD t _).mono ?_;rintro e w1 ⟨r1,rfl,hr1,hb⟩;have O1:=xh (zaM (zck w0 w0.heap.size 1 xl _ rfl) hb);have B1:=xh (zaq O1.out (by intro z hz;simp at hz;omega) (by simp));have R1:Hid (Bs w1 r1 (i8 t)):=hr1;have HB1:Hid (Below w0.heap.size w0 w1):=((Below.refl _ w0).alloc xl _).trans (hb.mono (by simp));have K1:=xh (K0.out.old HB1.out HL.out);clear hb hr1)
    | (at_builtin;refine za7 rfl (.tmp 17) (.tmp 20) rfl w0.heap.size [1] (i8 t) O1.out R1.out (by simp[l8]) HB1.out.size ?_;intro v2 w2 hown2 hb2 hs2;have O2:=xh hown2;have HB2:=xh (HB1.out.trans hb2);have K2:=xh (K0.out.old HB2.out HL.out);have⟨d0,d1,d2,d3,d4,d5⟩:=K2.out;have⟨e0,e1,e2,e3,e4,e5⟩:=K2.out.allocs;clear hown2 hb2 hs2)
    | (at_builtin;refine za7 rfl (.tmp 22) (.tmp 29) rfl w0.heap.size ([1]++i8 t) [o,r] (O2.out.alloc _) (zcl w2 o r (by omega) hr _ rfl) (by simp[l8]) (Nat.le_trans HB2.out.size (by simp)) ?_;intro v3 w3 hown3 hb3 hs3;have O3:=xh hown3;have HB3:=xh ((HB2.out.alloc HB2.out.size _).trans hb3);have K3:=xh (K0.out.old HB3.out HL.out);have⟨f0,f1,f2,f3,f4,f5⟩:=K3.out;clear hown3 hb3 hs3)
    | (go_at_call 132;refine(zgD d _).mono ?_;rintro e w4 ⟨r4,rfl,hr4,hb⟩;have O4:=xh (zaM O3.out hb);have R4:Hid (Bs w4 r4 (i8 d)):=hr4;have HB4:=xh (HB3.out.trans (hb.mono HB3.out.size));clear hb hr4)
    | (at_builtin;refine za7 rfl (.tmp 31) (.tmp 34) rfl w0.heap.size ([1]++i8 t++[o,r]) (i8 d) O4.out R4.out (by simp[l8]) HB4.out.size ?_;intro v5 w5 hown5 hb5 hs5;have O5:=xh hown5;have HB5:=xh (HB4.out.trans hb5);have K5:=xh (K0.out.old HB5.out HL.out);have⟨g0,g1,g2,g3,g4,g5⟩:=K5.out;have⟨m0,m1,m2,m3,m4,m5⟩:=K5.out.allocs;clear hown5 hb5 hs5)
    | (at_builtin;refine za7 rfl (.tmp 36) (.tmp 40) rfl w0.heap.size ([1]++i8 t++[o,r]++i8 d) [i] (O5.out.alloc _) (zdC w5 i (by omega) _ rfl) (by simp[l8]) (Nat.le_trans HB5.out.size (by simp)) ?_;intro v6 w6 hown6 hb6 hs6;have O6:=xh hown6;have HB6:=xh ((HB5.out.alloc HB5.out.size _).trans hb6);clear hown6 hb6 hs6))
  go_ret2
  refine⟨_,rfl,?_,HB.out.trans (HB6.out.mono (Nat.le_of_lt HL.out))⟩
  have e:htB false t o r d i=[1]++i8 t++[o,r]++i8 d++[i]:=rfl
  rw[e]
  exact zaq O6.out (zaS (zaS (zaS (zaS (by intro z hz;simp at hz;omega) (zev t)) (by intro z hz;simp at hz;rcases hz with rfl|rfl<;>omega)) (zev d)) (by intro z hz;simp at hz;omega)) (by simp[l8])
theorem zkj (n:Bool)(t o r d i:Int)(w:World):Calls Tryz.prog 133 #[.agg (xB n t o r d i)] w (RetB (htBs n t o r d i) (chk n t o r d i) w):=by
 by_cases h:HtOk n t o r d i
 ·rw[htBs,if_pos h,zb9 h]
  cases n with
  | true=>exact ziJ t o r d i w h
  | false=>exact zjy t o r d i w h
 ·rw[htBs,if_neg h,zc0 h]
  exact zlM n t o r d i w h
def Rows (w:World)(v:Value)(xss:List (List Int)):Prop:=
 ∃(g:Nat) (vs:List Value),v=.slice (some (xQ g 0)) vs.length vs.length∧vs.length=xss.length∧(∀i,i<vs.length→w.cell? ⟨g,i,none⟩=some (vs.getD i undef))∧∀i,i<vs.length→Bs w (vs.getD i undef) (xss.getD i [])
theorem Rows.below {w w':World}{v:Value}{xss:List (List Int)}(h:Rows w v xss)(hb:Below w.heap.size w w'):Rows w' v xss:=by
 obtain⟨g,vs,h1,h2,h3,h4⟩:=h
 exact⟨g,vs,h1,h2,fun i hi=>by rw[hb.cell (World.block_lt_of_cell? w _ (h3 i hi))];exact h3 i hi,fun i hi=>zaa (h4 i hi) hb⟩
theorem zpB (w:World)(v0 v1 v2 v3 v4:Value)(x0 x1 x2 x3 x4:List Int)(T:TypeId)(g:Nat)(hg:g=w.heap.size)(h0:Bs w v0 x0)(h1:Bs w v1 x1)(h2:Bs w v2 x2)(h3:Bs w v3 x3)(h4:Bs w v4 x4):
  Rows (w.alloc (.cells #[v0,v1,v2,v3,v4] T)) (.slice (some (xQ g 0)) 5 5) [x0,x1,x2,x3,x4]:=by
 subst hg
 have hb:=(Below.refl w.heap.size w).alloc xl (.cells #[v0,v1,v2,v3,v4] T)
 refine⟨w.heap.size,[v0,v1,v2,v3,v4],rfl,rfl,fun i hi=>?_,fun i hi=>?_⟩
 ·have:i=0∨i=1∨i=2∨i=3∨i=4:=by simp at hi;omega
  rcases this with rfl|rfl|rfl|rfl|rfl<;>simp
 ·have:i=0∨i=1∨i=2∨i=3∨i=4:=by simp at hi;omega
  rcases this with rfl|rfl|rfl|rfl|rfl
  ·exact zaa h0 hb
  ·exact zaa h1 hb
  ·exact zaa h2 hb
  ·exact zaa h3 hb
  ·exact zaa h4 hb
theorem zal {w:World}{v:Value}{xs:List Int}(h:Bs w v xs):∃a l c,v=.slice a l c:=by
 obtain⟨_,_,⟨a,c,h,_,_⟩|⟨b,o,c,h,_⟩⟩:=h
 ·exact⟨_,_,_,h⟩
 ·exact⟨_,_,_,h⟩
theorem zjl {W w:World}{v:Value}{xss:List (List Int)}(hC:Below W.heap.size W w)(h:Rows w v xss)(tot:xss.flatten.length≤1000)(h9:xss.length≤9):
  Calls Tryz.prog 17 #[v] w fun e w'=>∃u,e=.returned u∧Below W.heap.size W w'∧Below w.heap.size w w'∧Bs w' u xss.flatten:=by
 obtain⟨g,vs,rfl,h2,h3,h4⟩:=h
 exact(zhH g vs xss w h2 h3 h4 tot (by omega)).mono fun e w' ⟨r,he,ho,hx,hb⟩=>⟨r,he,hC.trans (hb.mono hC.size),hb,zaq ho hx (by omega)⟩
theorem zjV (n:Bool)(t o r d i:Int)(w:World)(h:¬HtOk n t o r d i):Calls Tryz.prog 87 #[.agg (xB n t o r d i)] w (RetB [] 1 w):=by
 have hc:=decide_eq_false h
 clear h
 go_enter Tryz.func87,Tryz.ntmps87
 go_wp2_with (go_at_call 109;refine(zbm _ _ _ _ _ _ _).mono ?_;rintro e w' ⟨rfl,hb⟩;rw[hc];have HB:Hid (Below w.heap.size w w'):=(xr.alloc xl _).trans (hb.mono (by simp));clear hb)
 go_ret2
 exact⟨_,rfl,zd0 _,HB.out⟩
theorem zgI (t o r d i:Int)(w:World)(h:HtOk true t o r d i):Calls Tryz.prog 87 #[.agg (xB true t o r d i)] w (RetB [0,i] 0 w):=by
 have hc:=decide_eq_true h
 have hi:0≤i∧i<64:=h.1
 have hw:IntKind.u8.wrap i=i:=by rw[IntKind.wrap_u8];omega
 clear h
 go_enter Tryz.func87,Tryz.ntmps87
 go_wp2_with (go_at_call 109;refine(zbm _ _ _ _ _ _ _).mono ?_;rintro e w' ⟨rfl,hb⟩;rw[hc];have⟨c0,c1,c2,c3,c4,c5⟩:=(zaU w true t o r d i 59).below hb;have HB:Hid (Below w.heap.size w w'):=(xr.alloc xl _).trans (hb.mono (by simp));clear hb)
 go_ret2
 exact⟨_,rfl,zcl _ _ _ (by omega) (by omega) _ rfl,HB.out.alloc HB.out.size _⟩
theorem ziv (t o r d i:Int)(w:World)(h:HtOk false t o r d i)(ht: -9223372036854775808≤t)(ht':t<9223372036854775808)(hd: -9223372036854775808≤d)(hd':d<9223372036854775808):Calls Tryz.prog 87 #[.agg (xB false t o r d i)] w (RetB (htB false t o r d i) 0 w):=by
  have hc:=decide_eq_true h
  have hi:0≤i∧i<64:=h.1
  have ho : zcd t o r d := by rcases h.2 with h | h; · cases h.1
                              exact h.2
  have hoo:0≤o∧o<64:=ho.2.2.1
  have hr:0≤r∧r<256:=by have:=ho.2.2.2.1;omega
  have hw:IntKind.u8.wrap i=i:=by rw[IntKind.wrap_u8];omega
  have hwo:IntKind.u8.wrap o=o:=by rw[IntKind.wrap_u8];omega
  have hwr:IntKind.u8.wrap r=r:=by rw[IntKind.wrap_u8];omega
  clear h ho
  have l8:=zca
  go_enter Tryz.func87,Tryz.ntmps87
  go_wp2_with (go_at_call 109;refine(zbm _ _ _ _ _ _ _).mono ?_;rintro e W ⟨rfl,hb⟩;rw[hc];have K:=xh ((zaU w false t o r d i 59).below hb);have⟨c0,c1,c2,c3,c4,c5⟩:=K.out;have HB:Hid (Below w.heap.size w W):=(xr.alloc xl _).trans (hb.mono (by simp));clear hb)
  have kc:∀w',Below W.heap.size W w'→Cells6 w' w.heap.size false t o r d i:=fun w' h=>K.out.below h
  unfold Cells6 at kc
  refine zaf (C:=fun w'=>Below W.heap.size W w') (X:=fun w w'=>Below w.heap.size w w') (n:=33) (by kernel_rfl) (by kernel_rfl) rfl (fun w=>Below.refl _ w) xr.drew ?_
  refine w_make (fun v w=>Bs w v ([1])) (fun _ _ _ h hb=>zaa h hb) (.inl rfl) (fun ρ w hC hc hfn hf=>by exact⟨_,_,by (conv=>lhs;simp[execOp,go_sem,hc]),hC.alloc hC.size _,xr.alloc xl _,zdC _ _ (by omega) _ rfl⟩) ?_
  refine wA 1 ?_
  refine wC 14 kc ?_
  refine za8 (fun v w=>Bs w v (i8 t)) (fun _ _ _ h hb=>zaa h hb) 88 (.inl rfl) (fun ρ w hC hc hfn hf=>by have e15:ρ (.tmp 15)=_:=hf 15 (by decide);exact⟨_,by (conv=>lhs;simp[execOp,resolve,invoke,go_sem,hc,hfn,e15]),((zfs t w ht ht').mono fun e w' ⟨r,he,hr,hb⟩=>⟨_,he,hC.trans (hb.mono hC.size),hb,hr⟩)⟩) ?_
  refine wA 1 ?_
  refine wC 17 kc ?_
  refine wD 18 hwo ?_
  refine wA 1 ?_
  refine wC 20 kc ?_
  refine wD 21 hwr ?_
  refine w_make (fun v w=>Bs w v ([o,r])) (fun _ _ _ h hb=>zaa h hb) (.inl rfl) (fun ρ w hC hc hfn hf=>by have e19:ρ (.tmp 19)=_:=hf 19 (by decide);have e22:ρ (.tmp 22)=_:=hf 22 (by decide);exact⟨_,_,by (conv=>lhs;simp[execOp,go_sem,hc,e19,e22]),hC.alloc hC.size _,xr.alloc xl _,zcl _ _ _ (by omega) (by omega) _ rfl⟩) ?_
  refine wA 1 ?_
  refine wC 24 kc ?_
  refine za8 (fun v w=>Bs w v (i8 d)) (fun _ _ _ h hb=>zaa h hb) 88 (.inl rfl) (fun ρ w hC hc hfn hf=>by have e25:ρ (.tmp 25)=_:=hf 25 (by decide);exact⟨_,by (conv=>lhs;simp[execOp,resolve,invoke,go_sem,hc,hfn,e25]),((zfs d w hd hd').mono fun e w' ⟨r,he,hr,hb⟩=>⟨_,he,hC.trans (hb.mono hC.size),hb,hr⟩)⟩) ?_
  refine wA 1 ?_
  refine wC 27 kc ?_
  refine wD 28 hw ?_
  refine w_make (fun v w=>Bs w v ([i])) (fun _ _ _ h hb=>zaa h hb) (.inl rfl) (fun ρ w hC hc hfn hf=>by have e29:ρ (.tmp 29)=_:=hf 29 (by decide);exact⟨_,_,by (conv=>lhs;simp[execOp,go_sem,hc,e29]),hC.alloc hC.size _,xr.alloc xl _,zdC _ _ (by omega) _ rfl⟩) ?_
  refine w_make (fun v w=>Rows w v [[1],i8 t,[o,r],i8 d,[i]]) (fun _ _ _ h hb=>h.below hb) (.inl rfl) (fun ρ w hC hc hfn hf=>by have e13:=hf 13 (by decide);have e16:=hf 16 (by decide);have e23:=hf 23 (by decide);have e26:=hf 26 (by decide);have e30:=hf 30 (by decide);obtain⟨a13,l13,c13,q13⟩:=zal e13;obtain⟨a16,l16,c16,q16⟩:=zal e16;obtain⟨a23,l23,c23,q23⟩:=zal e23;obtain⟨a26,l26,c26,q26⟩:=zal e26;obtain⟨a30,l30,c30,q30⟩:=zal e30;exact⟨_,_,by (conv=>lhs;simp[execOp,go_sem,hc,q13,q16,q23,q26,q30]),hC.alloc hC.size _,xr.alloc xl _,zpB _ _ _ _ _ _ _ _ _ _ _ _ _ rfl (by rw[←q13];exact e13) (by rw[←q16];exact e16) (by rw[←q23];exact e23) (by rw[←q26];exact e26) (by rw[←q30];exact e30)⟩) ?_
  refine za8 (fun v w=>Bs w v ([[1],i8 t,[o,r],i8 d,[i]].flatten)) (fun _ _ _ h hb=>zaa h hb) 17 (.inl rfl) (fun ρ w hC hc hfn hf=>by have e31:=hf 31 (by decide);exact⟨_,by (conv=>lhs;simp[execOp,resolve,invoke,go_sem,hc,hfn]),zjl hC e31 (by simp[l8]) (by simp)⟩) ?_
  refine znY (fun w=>Below.refl _ w) (fun v w=>Bs w v ([[1],i8 t,[o,r],i8 d,[i]].flatten)) (fun _ _ _ h hb=>zaa h hb) 32 (.inr rfl) (.inl rfl) rfl (by decide) ?_
  refine w_is (fun w=>Below.refl _ w) _ (.inl rfl) (fun ρ w hC hc hfn hf=>by (conv=>lhs;simp[execOp,go_sem,hc])) ?_
  intro A W4 hC hn hd hf
  have y0:=yA (hf 0)
  have y1:=yA (hf 1)
  have y2:=hf 2
  have y3:=yB (hf 3)
  have y4:=yA (hf 4)
  have y5:=yA (hf 5)
  have y6:=yA (hf 6)
  have y7:=yA (hf 7)
  have y8:=yA (hf 8)
  have y9:=yA (hf 9)
  have y10:=yA (hf 10)
  have y11:=yA (hf 11)
  have y12:=yA (hf 12)
  have y13:=hf 13
  have y14:=yB (hf 14)
  have y15:=yB (hf 15)
  have y16:=hf 16
  have y17:=yB (hf 17)
  have y18:=yB (hf 18)
  have y19:=yB (hf 19)
  have y20:=yB (hf 20)
  have y21:=yB (hf 21)
  have y22:=yB (hf 22)
  have y23:=hf 23
  have y24:=yB (hf 24)
  have y25:=yB (hf 25)
  have y26:=hf 26
  have y27:=yB (hf 27)
  have y28:=yB (hf 28)
  have y29:=yB (hf 29)
  have y30:=hf 30
  have y31:=hf 31
  have y32:=hf 32
  clear hf
  have hA:=zaL hn
  rw[show List.range 33=[0,1,2,3,4,5,6,7,8,9,10,11,12,13,14,15,16,17,18,19,20,21,22,23,24,25,26,27,28,29,30,31,32]from rfl,hd]at hA
  simp only[List.map_cons,List.map_nil,y0,y1,y3,y4,y5,y6,y7,y8,y9,y10,y11,y12,y14,y15,y17,y18,y19,y20,y21,y22,y24,y25,y27,y28,y29]at hA
  change (fun v w=>Bs w v ([[1],i8 t,[o,r],i8 d,[i]].flatten)) (A.eval (.tmp 2)) W4 at y2
  change (fun v w=>Bs w v ([1])) (A.eval (.tmp 13)) W4 at y13
  change (fun v w=>Bs w v (i8 t)) (A.eval (.tmp 16)) W4 at y16
  change (fun v w=>Bs w v ([o,r])) (A.eval (.tmp 23)) W4 at y23
  change (fun v w=>Bs w v (i8 d)) (A.eval (.tmp 26)) W4 at y26
  change (fun v w=>Bs w v ([i])) (A.eval (.tmp 30)) W4 at y30
  change (fun v w=>Rows w v [[1],i8 t,[o,r],i8 d,[i]]) (A.eval (.tmp 31)) W4 at y31
  change (fun v w=>Bs w v ([[1],i8 t,[o,r],i8 d,[i]].flatten)) (A.eval (.tmp 32)) W4 at y32
  clear y0 y1 y3 y4 y5 y6 y7 y8 y9 y10 y11 y12 y14 y15 y17 y18 y19 y20 y21 y22 y24 y25 y27 y28 y29
  generalize A.eval (.tmp 2)=v2 at*
  generalize A.eval (.tmp 13)=v13 at*
  generalize A.eval (.tmp 16)=v16 at*
  generalize A.eval (.tmp 23)=v23 at*
  generalize A.eval (.tmp 26)=v26 at*
  generalize A.eval (.tmp 30)=v30 at*
  generalize A.eval (.tmp 31)=v31 at*
  generalize A.eval (.tmp 32)=v32 at*
  clear hn hd
  subst hA
  go_wp2_with fail
  go_ret2
  refine⟨_,rfl,?_,HB.out.trans (hC.mono HB.out.size)⟩
  have e:htB false t o r d i=[[1],i8 t,[o,r],i8 d,[i]].flatten:=by simp[htB]
  rw[e]
  assumption
theorem zih (n:Bool)(t o r d i:Int)(w:World)(ht: -9223372036854775808≤t)(ht':t<9223372036854775808)(hd: -9223372036854775808≤d)(hd':d<9223372036854775808):Calls Tryz.prog 87 #[.agg (xB n t o r d i)] w (RetB (htBs n t o r d i) (chk n t o r d i) w):=by
 by_cases h:HtOk n t o r d i
 ·rw[htBs,if_pos h,zb9 h]
  cases n with
  | true=>exact zgI t o r d i w h
  | false=>exact ziv t o r d i w h ht ht' hd hd'
 ·rw[htBs,if_neg h,zc0 h]
  exact zjV n t o r d i w h
end
section
open Go.WideShapes Go.ChangeShapes
theorem zoa:Tryz.prog.underlying 63=some (.struct (Tryz.prog.fieldsOf 63)):=by kernel_rfl
end
theorem zhl {P:Program}{w:World}{d:Nat}{xs ys:Array Value}{f:Field}{fs:List Field}{x y:Value}{T:TypeId}{off:Nat}{e:Bool}
  (h:(f.name=="_",f.type,f.offset)=(false,T,off)) (hx:(part T xs off).run P w=.ok x w) (hy:(part T ys off).run P w=.ok y w) (he:(Op.equalIn d T x y).run P w=.ok e w):
  (Op.eqFields d xs ys (f::fs)).run P w=if e then(Op.eqFields d xs ys fs).run P w else .ok false w:=by
 simp only[Prod.mk.injEq,beq_eq_false_iff_ne]at h
 obtain⟨h1,h2,h3⟩:=h
 simp only[Op.eqFields,h2,h3]
 rw[if_pos h1]
 simp only[Sem.run_bind,hx,hy,he,Result.andThen_ok,Sem.run_ite,Sem.run_pure]
 cases e<;>simp
theorem zje (D:Nat)(n m:Bool)(t o r d i t' o' r' d' i':Int)(w:World):
  (Op.equalIn (D+1+1) 59 (.agg (xB n t o r d i)) (.agg (xB m t' o' r' d' i'))).run Tryz.prog w
   =.ok (eqH n t o r d i m t' o' r' d' i') w:=by
 rw[run_equalIn_agg w (D+1) 59 _ _ zi2 (by kernel_rfl)]
 have hf:=zhV
 generalize (Tryz.prog.fieldsOf 59).toList=fs at*
 have a3:(isAgg 3).run Tryz.prog w=.ok false w:=by kernel_rfl
 have a4:(isAgg 4).run Tryz.prog w=.ok false w:=by kernel_rfl
 obtain⟨f0,_,rfl,g0,hf⟩:=List.map_eq_cons_iff.1 hf
 obtain⟨f1,_,rfl,g1,hf⟩:=List.map_eq_cons_iff.1 hf
 obtain⟨f2,_,rfl,g2,hf⟩:=List.map_eq_cons_iff.1 hf
 obtain⟨f3,_,rfl,g3,hf⟩:=List.map_eq_cons_iff.1 hf
 obtain⟨f4,_,rfl,g4,hf⟩:=List.map_eq_cons_iff.1 hf
 obtain⟨f5,_,rfl,g5,hf⟩:=List.map_eq_cons_iff.1 hf
 obtain rfl:=List.map_eq_nil_iff.1 hf
 rw[zaP g0 a4 rfl rfl (run_equalIn_bool' w D 4 n m (by kernel_rfl)),zaP g1 a3 rfl rfl (run_equalIn_int w D 3 .i64 .i64 t t' (by kernel_rfl)),
  zaP g2 a3 rfl rfl (run_equalIn_int w D 3 .i64 .i64 o o' (by kernel_rfl)),zaP g3 a3 rfl rfl (run_equalIn_int w D 3 .i64 .i64 r r' (by kernel_rfl)),
  zaP g4 a3 rfl rfl (run_equalIn_int w D 3 .i64 .i64 d d' (by kernel_rfl)),zaP g5 a3 rfl rfl (run_equalIn_int w D 3 .i64 .i64 i i' (by kernel_rfl))]
 simp only[Op.eqFields,Sem.run_pure,eqH]
 cases n==m<;>cases t==t'<;>cases o==o'<;>cases r==r'<;>cases d==d'<;>cases i==i'<;>rfl
theorem zjR (D:Nat)(t o r t' o' r':Int)(w:World):
  (Op.equalIn (D+1+1) 61 (.agg #[xI t,xI o,xI r]) (.agg #[xI t',xI o',xI r'])).run Tryz.prog w=.ok (eqL t o r t' o' r') w:=by
 rw[run_equalIn_agg w (D+1) 61 _ _ zjF (by kernel_rfl)]
 have hf:=zhd
 generalize (Tryz.prog.fieldsOf 61).toList=fs at*
 have a3:(isAgg 3).run Tryz.prog w=.ok false w:=by kernel_rfl
 obtain⟨f1,_,rfl,g1,hf⟩:=List.map_eq_cons_iff.1 hf
 obtain⟨f2,_,rfl,g2,hf⟩:=List.map_eq_cons_iff.1 hf
 obtain⟨f3,_,rfl,g3,hf⟩:=List.map_eq_cons_iff.1 hf
 obtain rfl:=List.map_eq_nil_iff.1 hf
 rw[zaP g1 a3 rfl rfl (run_equalIn_int w D 3 .i64 .i64 t t' (by kernel_rfl)),zaP g2 a3 rfl rfl (run_equalIn_int w D 3 .i64 .i64 o o' (by kernel_rfl)),zaP g3 a3 rfl rfl (run_equalIn_int w D 3 .i64 .i64 r r' (by kernel_rfl))]
 simp only[Op.eqFields,Sem.run_pure,eqL]
 cases t==t'<;>cases o==o'<;>cases r==r'<;>rfl
theorem zmh:((Tryz.prog.fieldsOf 63).toList.map fun f=>(f.name=="_",f.type,f.offset))=[(false,3,0),(false,3,1),(false,59,2),(false,61,8),(false,3,11)]:=by kernel_rfl
def eqO (k x:Int)(n:Bool)(t o r d i p q s m:Int)(k' x':Int)(n':Bool)(t' o' r' d' i' p' q' s' m':Int):Bool:=k==k'&&(x==x'&&(eqH n t o r d i n' t' o' r' d' i'&&(eqL p q s p' q' s'&&m==m')))
theorem znr {k x:Int}{n:Bool}{t o r d i p q s m:Int}{k' x':Int}{n':Bool}{t' o' r' d' i' p' q' s' m':Int}:eqO k x n t o r d i p q s m k' x' n' t' o' r' d' i' p' q' s' m'=true↔k=k'∧x=x'∧n=n'∧t=t'∧o=o'∧r=r'∧d=d'∧i=i'∧p=p'∧q=q'∧s=s'∧m=m':=by
 simp only[eqO,Bool.and_eq_true,beq_iff_eq,zbC,zgB,and_assoc]
theorem zmH (w:World)(k x:Int)(n:Bool)(t o r d i p q s m:Int):(part 59 (xO k x n t o r d i p q s m) 2).run Tryz.prog w=.ok (.agg (xB n t o r d i)) w:=by
 have h:(isAgg 59).run Tryz.prog w=.ok true w:=by kernel_rfl
 have hc:(Go.sizeOf 59).run Tryz.prog w=.ok 6 w:=by kernel_rfl
 simp only[part,Sem.run_bind,h,hc,Result.andThen_ok,if_true,Sem.run_pure]
 rfl
theorem zmC (w:World)(k x:Int)(n:Bool)(t o r d i p q s m:Int):(part 61 (xO k x n t o r d i p q s m) 8).run Tryz.prog w=.ok (.agg #[xI p,xI q,xI s]) w:=by
 have h:(isAgg 61).run Tryz.prog w=.ok true w:=by kernel_rfl
 have hc:(Go.sizeOf 61).run Tryz.prog w=.ok 3 w:=by kernel_rfl
 simp only[part,Sem.run_bind,h,hc,Result.andThen_ok,if_true,Sem.run_pure]
 rfl
theorem zle (k x:Int)(n:Bool)(t o r d i p q s m:Int)(k' x':Int)(n':Bool)(t' o' r' d' i' p' q' s' m':Int)(w:World):(Op.equalIn 10000 63 (.agg (xO k x n t o r d i p q s m)) (.agg (xO k' x' n' t' o' r' d' i' p' q' s' m'))).run Tryz.prog w=.ok (eqO k x n t o r d i p q s m k' x' n' t' o' r' d' i' p' q' s' m') w:=by
 rw[run_equalIn_agg w 9999 63 _ _ zoa (by kernel_rfl)]
 have hf:=zmh
 generalize (Tryz.prog.fieldsOf 63).toList=fs at*
 have a3:(isAgg 3).run Tryz.prog w=.ok false w:=by kernel_rfl
 obtain⟨f0,_,rfl,g0,hf⟩:=List.map_eq_cons_iff.1 hf
 obtain⟨f1,_,rfl,g1,hf⟩:=List.map_eq_cons_iff.1 hf
 obtain⟨f2,_,rfl,g2,hf⟩:=List.map_eq_cons_iff.1 hf
 obtain⟨f3,_,rfl,g3,hf⟩:=List.map_eq_cons_iff.1 hf
 obtain⟨f4,_,rfl,g4,hf⟩:=List.map_eq_cons_iff.1 hf
 obtain rfl:=List.map_eq_nil_iff.1 hf
 rw[zaP g0 a3 rfl rfl (run_equalIn_int w 9998 3 .i64 .i64 k k' (by kernel_rfl)),zaP g1 a3 rfl rfl (run_equalIn_int w 9998 3 .i64 .i64 x x' (by kernel_rfl)),
  zhl g2 (zmH w k x n t o r d i p q s m) (zmH w k' x' n' t' o' r' d' i' p' q' s' m') (zje 9997 n n' t o r d i t' o' r' d' i' w),
  zhl g3 (zmC w k x n t o r d i p q s m) (zmC w k' x' n' t' o' r' d' i' p' q' s' m') (zjR 9997 p q s p' q' s' w),
  zaP g4 a3 rfl rfl (run_equalIn_int w 9998 3 .i64 .i64 m m' (by kernel_rfl))]
 simp only[Op.eqFields,Sem.run_pure,eqO]
 cases k==k'<;>cases x==x'<;>cases eqH n t o r d i n' t' o' r' d' i'<;>cases eqL p q s p' q' s'<;>cases m==m'<;>rfl
theorem zn9 (op:BinOp)(x y:Operand)(xs ys:Array Value)(w:World):(eqGuard op 63 x y (.agg xs) (.agg ys)).run Tryz.prog w=.ok () w:=
 run_eqGuard_agg w op 63 x y xs ys (by kernel_rfl)
theorem zod (v:Int)(n:Nat):(lo v n).map (Value.int .u8)=row (fun i=>v/256^(n-1-i)%256) n:=by
 unfold lo row
 rw[List.map_map]
 rfl
theorem zfu (v:Int)(N:Nat)(w:World)(v0:0≤v)(c2:v<zao N)(n1':1≤N)(n7':N≤7):
  Calls Tryz.prog 27 #[xI v,xI N] w fun e w'=>∃r,e=.returned (.tuple #[r,xI 0])∧w'.ownsRow w.heap.size 5 1 r N ((lo v N).map (Value.int .u8))∧Below w.heap.size w w':=by
 obtain⟨i0,hi,hz0,hz1,hz2⟩:=info_parts Tryz.info5
 have n1:(1:Int)≤(N:Int):=by omega
 have n7:(N:Int)≤7:=by omega
 skip
 have vs:v<72057594037927936:=Int.lt_of_lt_of_le c2 (zbI n7')
 go_enter Tryz.func27,Tryz.ntmps27
 go_wp2_with (first
  | (go_at_call 49;refine(zkB N _ n7').mono ?_;rintro e w' ⟨rfl,rfl⟩)
  | (at_make;go_must (refine wpList_make_full _ rfl _ _ 26 rfl w.heap.size 5 i0 (.int .u8 0) 1 Tryz.underlying26 hi hz0 hz1 _ _ _ _ N rfl rfl rfl rfl (by rw[hz2];omega) (by unfold maxLen;omega) (by simp) ?_);intro w1 hown hgrow))
 rw[zeg]at hown
 have hbel:Below w.heap.size w w1:=(xr.grown hgrow (by simp) (by simp))
 clear hgrow c2
 go_loopw [0,7] (fun x i wr=>∃j:Int,-1≤j∧j<N∧i=xI j∧x=xI (v/256^((N:Int)-1-j).toNat)∧wr.ownsRow w.heap.size 5 1 (.slice (some (w.heap.size,0)) N N) N (row (zcu (fun i=>v/256^(N-1-i)%256) (j+1).toNat) N)∧Below w.heap.size w wr) (fun _ i _=>(intOf i+1).toNat)
 case atStart=>
  refine⟨(N:Int)-1,by omega,by omega,rfl,zcE ?_,?_,hbel⟩
  ·rw[show((N:Int)-1-((N:Int)-1)).toNat=0 from by omega];simp
  ·rw[show((N:Int)-1+1).toNat=N from by omega,zeI];simpa using hown
 case round=>
  clear hbel hown
  obtain⟨j,hj0,hj1,rfl,rfl,hown,hbel⟩:=hrel
  by_cases hlt:0≤j
  ·obtain⟨k,rfl⟩:=Int.eq_ofNat_of_zero_le hlt
   have hkN:k<N:=by omega
   rw[show((k:Int)+1).toNat=k+1 from by omega]at hown
   have hcell:=hown.cellAt k (by omega)
   rw[zcy _ _ _ hkN]at hcell
   have hfz:=hown.frozenAt k
   have hst:=xh (hown.stored k)
   have hb2:=xh hbel
   clear hown hbel
   have hL:=xh (show v/256^((N:Int)-1-(k:Int)).toNat=v/256^(N-1-k)by rw[show((N:Int)-1-(k:Int)).toNat=N-1-k from by omega])
   have hn:=xh (show v/256^((N:Int)-1-((k:Int)-1)).toNat=v/256^(N-1-k)/256 by rw[show((N:Int)-1-((k:Int)-1)).toNat=(N-1-k)+1 from by omega,Int.pow_succ,←Int.ediv_ediv_of_nonneg (by exact Int.pow_nonneg (by omega))])
   have hV0:0≤v/256^(N-1-k):=Int.ediv_nonneg v0 (Int.pow_nonneg (by omega))
   rw[hL.out]
   have hV1:v/256^(N-1-k)<72057594037927936:=Int.lt_of_le_of_lt (Int.ediv_le_self _ v0) vs
   generalize hV:v/256^(N-1-k)=V at*
   have hV2:=xh hV
   clear hV
   go_wp2
   go_roundw
   case rel=>
    refine⟨(k:Int)-1,by omega,by omega,rfl,zcE (by rw[hn.out]),?_,hb2.out.setCell (by simp) _⟩
    rw[show((k:Int)-1+1).toNat=k from by omega,←zhC,hV2.out]
    exact(hst.out _).1
   case measure=>simp[intOf]
  ·obtain rfl:j= -1:=by omega
   have ho:=xh hown
   have hb2:=xh hbel
   clear hown hbel
   go_wp2
   go_ret2
   refine⟨_,rfl,?_,hb2.out⟩
   have hr:=ho.out
   rw[show((-1:Int)+1).toNat=0 from rfl,zeV]at hr
   rw[zod]
   exact hr
section
open Go.WideShapes Go.ChangeShapes
abbrev Pk:=Int×Int×Int×Int×ByteArray
theorem zoq:Tryz.prog.underlying 48=some (.struct (Tryz.prog.fieldsOf 48)):=by kernel_rfl
theorem zdt {P:Program}{w:World}{d:Nat}{xs ys:Array Value}{f:Field}{fs:List Field}{x y:Value}{T:TypeId}{off:Nat}{e:Bool}
  (h:(f.name=="_",f.type,f.offset)=(false,T,off)) (ha:(isAgg T).run P w=.ok false w) (hx:xs[off]? =some x) (hy:ys[off]? =some y) (he:(Op.equalIn d T x y).run P w=.ok e w):
  (Op.eqFields d xs ys (f::fs)).run P w=if e then(Op.eqFields d xs ys fs).run P w else .ok false w:=by
 simp only[Prod.mk.injEq,beq_eq_false_iff_ne]at h
 obtain⟨h1,h2,h3⟩:=h
 have p:∀(zs:Array Value) (z:Value),zs[off]? =some z→(part T zs off).run P w=.ok z w:=by
  intro zs z hz
  simp only[part,Sem.run_bind,ha,Result.andThen_ok,Bool.false_eq_true,if_false,hz,Sem.run_pure]
 simp only[Op.eqFields,h2,h3]
 rw[if_pos h1]
 simp only[Sem.run_bind,p xs x hx,p ys y hy,he,Result.andThen_ok,Sem.run_ite,Sem.run_pure]
 cases e<;>simp
theorem zmi:((Tryz.prog.fieldsOf 48).toList.map fun f=>(f.name=="_",f.type,f.offset))=[(false,3,0),(false,3,1),(false,3,2),(false,3,3),(false,9,4)]:=by kernel_rfl
def eqK (a b c d:Int)(x:ByteArray)(a' b' c' d':Int)(x':ByteArray):Bool:=a==a'&&(b==b'&&(c==c'&&(d==d'&&x.toList==x'.toList)))
theorem zhr (a b c d:Int)(x:ByteArray)(a' b' c' d':Int)(x':ByteArray)(w:World):
  (Op.equalIn 10000 48 (.agg (xA a b c d (.string x))) (.agg (xA a' b' c' d' (.string x')))).run Tryz.prog w=.ok (eqK a b c d x a' b' c' d' x') w:=by
 rw[run_equalIn_agg w 9999 48 _ _ zoq (by kernel_rfl)]
 have hf:=zmi
 generalize (Tryz.prog.fieldsOf 48).toList=fs at*
 have a3:(isAgg 3).run Tryz.prog w=.ok false w:=by kernel_rfl
 have a9:(isAgg 9).run Tryz.prog w=.ok false w:=by kernel_rfl
 obtain⟨f0,_,rfl,g0,hf⟩:=List.map_eq_cons_iff.1 hf
 obtain⟨f1,_,rfl,g1,hf⟩:=List.map_eq_cons_iff.1 hf
 obtain⟨f2,_,rfl,g2,hf⟩:=List.map_eq_cons_iff.1 hf
 obtain⟨f3,_,rfl,g3,hf⟩:=List.map_eq_cons_iff.1 hf
 obtain⟨f4,_,rfl,g4,hf⟩:=List.map_eq_cons_iff.1 hf
 obtain rfl:=List.map_eq_nil_iff.1 hf
 rw[zdt g0 a3 rfl rfl (run_equalIn_int w 9998 3 .i64 .i64 a a' (by kernel_rfl)),zdt g1 a3 rfl rfl (run_equalIn_int w 9998 3 .i64 .i64 b b' (by kernel_rfl)),zdt g2 a3 rfl rfl (run_equalIn_int w 9998 3 .i64 .i64 c c' (by kernel_rfl)),zdt g3 a3 rfl rfl (run_equalIn_int w 9998 3 .i64 .i64 d d' (by kernel_rfl)),zdt g4 a9 rfl rfl (run_equalIn_string w 9998 9 x x' (by kernel_rfl))]
 simp only[Op.eqFields,Sem.run_pure,eqK]
 cases a==a'<;>cases b==b'<;>cases c==c'<;>cases d==d'<;>cases x.toList==x'.toList<;>rfl
theorem zb5 (op:BinOp)(x y:Operand)(xs ys:Array Value)(w:World):(eqGuard op 48 x y (.agg xs) (.agg ys)).run Tryz.prog w=.ok () w:=
 run_eqGuard_agg w op 48 x y xs ys (by kernel_rfl)
theorem zlD (a b c d:Int)(x:ByteArray)(a' b' c' d':Int)(x':ByteArray)(w:World):(binOp .neq 48 (.agg (xA a b c d (.string x))) (.agg (xA a' b' c' d' (.string x')))).run Tryz.prog w=.ok (.bool (!eqK a b c d x a' b' c' d' x')) w:=by
 rw[run_neq_struct,zhr];rfl
theorem ziG (a b c d:Int)(x:ByteArray)(a' b' c' d':Int)(x':ByteArray)(w:World):(binOp .eql 48 (.agg (xA a b c d (.string x))) (.agg (xA a' b' c' d' (.string x')))).run Tryz.prog w=.ok (.bool (eqK a b c d x a' b' c' d' x')) w:=by
 rw[run_eql_struct,zhr];rfl
def OwnP (w:World)(b:Nat)(s d t n:Int)(x:ByteArray):Prop:=(w.cell? (xQ b 0)=xJ s∧w.cell? (xQ b 1)=xJ d∧w.cell? (xQ b 2)=xJ t∧w.cell? (xQ b 3)=xJ n∧w.cell? (xQ b 4)=some (.string x))∧∀j,w.frozen? ⟨b,j,none⟩=false
theorem za1 (w:World)(s d t n:Int)(x:ByteArray)(T:TypeId)(g:Nat)(hg:g=w.heap.size):OwnP (w.alloc (.cells (xA s d t n (.string x)) T)) g s d t n x:=by
 subst hg
 exact⟨⟨by simp,by simp,by simp,by simp,by simp⟩,fun j=>by simp⟩
theorem OwnP.lt {w:World}{b:Nat}{s d t n:Int}{x:ByteArray}(h:OwnP w b s d t n x):b<w.heap.size:=World.block_lt_of_cell? w _ h.1.1
theorem OwnP.low {w w':World}{b S:Nat}{s d t n:Int}{x:ByteArray}(h:OwnP w b s d t n x)(hb:b<S)(hB:Below S w w'):OwnP w' b s d t n x:=
 ⟨⟨(hB.cell (p:=xQ b 0) hb).trans h.1.1,(hB.cell (p:=xQ b 1) hb).trans h.1.2.1,(hB.cell (p:=xQ b 2) hb).trans h.1.2.2.1,(hB.cell (p:=xQ b 3) hb).trans h.1.2.2.2.1,(hB.cell (p:=xQ b 4) hb).trans h.1.2.2.2.2⟩,fun j=>(hB.frozen (p:=⟨b,j,none⟩) hb).trans (h.2 j)⟩
theorem OwnP.below {w w':World}{b:Nat}{s d t n:Int}{x:ByteArray}(h:OwnP w b s d t n x)(hb:Below w.heap.size w w'):OwnP w' b s d t n x:=h.low h.lt hb
def put5 (w:World)(b:Nat)(s d t n:Int)(x:ByteArray):World:=(xC w b (xA s d t n (.string x)))
theorem OwnP.set {w:World}{b:Nat}{s d t n:Int}{x:ByteArray}(h:OwnP w b s d t n x)(s' d' t' n':Int)(x':ByteArray):OwnP (put5 w b s' d' t' n' x') b s' d' t' n' x':=by
 obtain⟨⟨h0,h1,h2,h3,h4⟩,hf⟩:=h
 unfold put5
 refine⟨⟨?_,?_,?_,?_,?_⟩,fun j=>?_⟩<;>simp[go_sem,hf,h0,h1,h2,h3,h4]
theorem zbE {B:Nat}{u w:World}{b:Nat}(h:Below B u w)(hB:B≤b)(s d t n:Int)(x:ByteArray):Below B u (put5 w b s d t n x):=
 (xC5 h hB)
def PkOk (s d t n:Int)(x:ByteArray):Prop:=(0≤s∧s<64)∧(0≤d∧d<64)∧(0≤t∧t≤255)∧(0≤n∧n≤65535)∧x.size≤256
instance (s d t n:Int)(x:ByteArray):Decidable (PkOk s d t n x):=by unfold PkOk;infer_instance
theorem zde (s d t n:Int)(x:ByteArray)(Q:Bool)(hQ:Q=true↔PkOk s d t n x)(w:World):
  Calls Tryz.prog 71 #[.agg (xA s d t n (.string x))] w fun e w'=>e=.returned (.bool Q)∧Below w.heap.size w w':=by
 have HB:Hid (Below w.heap.size w (w.alloc (.cells (xA s d t n (.string x)) 48))):=xr.alloc xl _
 unfold PkOk at hQ
 by_cases h0:0≤s
 ·skip
  by_cases h1:s<64
  ·skip
   by_cases h2:0≤d
   ·skip
    by_cases h3:d<64
    ·skip
     by_cases h4:0≤t
     ·skip
      by_cases h5:t≤255
      ·skip
       by_cases h6:0≤n
       ·skip
        by_cases h7:n≤65535
        ·skip
         by_cases h8:(x.size:Int)≤256
         ·skip
          obtain rfl:Q=true:=hQ.2 ⟨⟨h0,h1⟩,⟨h2,h3⟩,⟨h4,h5⟩,⟨h6,h7⟩,by omega⟩
          clear hQ
          go_enter Tryz.func71,Tryz.ntmps71
          go_wp2_with fail
          go_ret
          exact⟨rfl,HB.out⟩
         ·skip
          obtain rfl:Q=false:=by
           cases Q with
           | false=>rfl
           | true=>have h9:=hQ.1 rfl;omega
          have d9:decide ((x.size:Int)≤256)=false:=decide_eq_false h8
          clear hQ
          go_enter Tryz.func71,Tryz.ntmps71
          go_wp2_with fail
          go_ret
          exact⟨rfl,HB.out⟩
        ·skip
         obtain rfl:Q=false:=by
          cases Q with
          | false=>rfl
          | true=>have h9:=hQ.1 rfl;omega
         have d9:decide (n≤65535)=false:=decide_eq_false h7
         clear hQ
         go_enter Tryz.func71,Tryz.ntmps71
         go_wp2_with fail
         go_ret
         exact⟨rfl,HB.out⟩
       ·skip
        obtain rfl:Q=false:=by
         cases Q with
         | false=>rfl
         | true=>have h9:=hQ.1 rfl;omega
        have d9:decide (0≤n)=false:=decide_eq_false h6
        clear hQ
        go_enter Tryz.func71,Tryz.ntmps71
        go_wp2_with fail
        go_ret
        exact⟨rfl,HB.out⟩
      ·skip
       obtain rfl:Q=false:=by
        cases Q with
        | false=>rfl
        | true=>have h9:=hQ.1 rfl;omega
       have d9:decide (t≤255)=false:=decide_eq_false h5
       clear hQ
       go_enter Tryz.func71,Tryz.ntmps71
       go_wp2_with fail
       go_ret
       exact⟨rfl,HB.out⟩
     ·skip
      obtain rfl:Q=false:=by
       cases Q with
       | false=>rfl
       | true=>have h9:=hQ.1 rfl;omega
      have d9:decide (0≤t)=false:=decide_eq_false h4
      clear hQ
      go_enter Tryz.func71,Tryz.ntmps71
      go_wp2_with fail
      go_ret
      exact⟨rfl,HB.out⟩
    ·skip
     obtain rfl:Q=false:=by
      cases Q with
      | false=>rfl
      | true=>have h9:=hQ.1 rfl;omega
     have d9:decide (d<64)=false:=decide_eq_false h3
     clear hQ
     go_enter Tryz.func71,Tryz.ntmps71
     go_wp2_with fail
     go_ret
     exact⟨rfl,HB.out⟩
   ·skip
    obtain rfl:Q=false:=by
     cases Q with
     | false=>rfl
     | true=>have h9:=hQ.1 rfl;omega
    have d9:decide (0≤d)=false:=decide_eq_false h2
    clear hQ
    go_enter Tryz.func71,Tryz.ntmps71
    go_wp2_with fail
    go_ret
    exact⟨rfl,HB.out⟩
  ·skip
   obtain rfl:Q=false:=by
    cases Q with
    | false=>rfl
    | true=>have h9:=hQ.1 rfl;omega
   have d9:decide (s<64)=false:=decide_eq_false h1
   clear hQ
   go_enter Tryz.func71,Tryz.ntmps71
   go_wp2_with fail
   go_ret
   exact⟨rfl,HB.out⟩
 ·skip
  obtain rfl:Q=false:=by
   cases Q with
   | false=>rfl
   | true=>have h9:=hQ.1 rfl;omega
  have d9:decide (0≤s)=false:=decide_eq_false h0
  clear hQ
  go_enter Tryz.func71,Tryz.ntmps71
  go_wp2_with fail
  go_ret
  exact⟨rfl,HB.out⟩
end
section
open Go.Lib
def bl (x:ByteArray):List Int:=x.data.toList.map fun b=>(b.toNat:Int)
theorem zdh (x:ByteArray):(bl x).length=x.size:=by unfold bl;rw[List.length_map,Array.length_toList];rfl
theorem zmG (x:ByteArray):∀v∈bl x,0≤v∧v<256:=fun v hv=>by
 obtain⟨b,_,rfl⟩:=List.mem_map.1 hv
 have:=b.toNat_lt
 omega
theorem zj3 (w:World)(x:ByteArray):Below w.heap.size w (bytesWorld w 5 x):=
 ⟨rfl,rfl,rfl,by rw[bytesWorld_size];omega,fun k hk=>bytesWorld_at_old w 5 x k hk⟩
theorem zl1 (w:World)(x:ByteArray)(h:x.size≤9223372036854775807):Bs (bytesWorld w 5 x) (.slice (some (w.heap.size,0)) x.size (grownCap w x.size 0 5)) (bl x):=by
 refine⟨zmG x,by rw[zdh];exact h,.inr ⟨w.heap.size,0,_,by rw[zdh],by rw[zdh];exact grownCap_ge w x.size 0 5,fun i hi=>?_⟩⟩
 rw[zdh]at hi
 rw[Nat.zero_add,bytesWorld_cell w 5 x i hi]
 simp[bl,List.getD]
 cases x.data[i]? <;>rfl
theorem zh4 (x:ByteArray)(w:World):(convert 9 26 (.string x)).run Tryz.prog w=.ok (.slice (some (w.heap.size,0)) x.size (grownCap w x.size 0 5)) (bytesWorld w 5 x):=
 _root_.Go.Lib.run_convert_string_bytes w 9 26 5 x Tryz.underlying9 Tryz.underlying26 Tryz.underlying5
theorem zj1 {w:World}{v1 v2:Value}{x1 x2:List Int}(h1:Bs w v1 x1)(h2:Bs w v2 x2)(T:TypeId)(tot:x1.length+x2.length≤5000):
  Calls Tryz.prog 17 #[.slice (some (w.heap.size,0)) 2 2] (w.alloc (.cells #[v1,v2] T)) (zfV (x1++x2) (w.alloc (.cells #[v1,v2] T))):=by
 have h:=zfj w.heap.size [v1,v2] [x1,x2] (w.alloc (.cells #[v1,v2] T)) rfl (zed w [v1,v2] T) (fun i hi=>by
  have:i=0∨i=1:=by simp at hi;omega
  rcases this with rfl|rfl
  ·exact zbz h1 _
  ·exact zbz h2 _) (by simp;omega) (by simp)
 simpa using h
def hdB (s d t n k:Int):List Int:=[s,d,t,n/256,n%256,k/256,k%256]
def pkB (s d t n:Int)(x:ByteArray):List Int:=hdB s d t n x.size++bl x
theorem zmD {s d t n:Int}{x:ByteArray}(h:PkOk s d t n x):∀v∈hdB s d t n x.size,0≤v∧v<256:=fun v hv=>by
 obtain⟨h1,h2,h3,h4,h5⟩:=h
 simp only[hdB,List.mem_cons,List.not_mem_nil,or_false]at hv
 rcases hv with rfl|rfl|rfl|rfl|rfl|rfl|rfl<;>omega
theorem zjP (s d t n:Int)(x:ByteArray):(pkB s d t n x).length=7+x.size:=by
 unfold pkB;rw[List.length_append,zdh];rfl
theorem zm1 {s d t n:Int}{x:ByteArray}(h:PkOk s d t n x):∀v∈pkB s d t n x,0≤v∧v<256:=fun v hv=>by
 rcases List.mem_append.1 hv with h1|h1
 ·exact zmD h v h1
 ·exact zmG x v h1
theorem zim (s d t n:Int)(x:ByteArray)(w:World)(h:¬PkOk s d t n x):
  Calls Tryz.prog 48 #[.agg (xA s d t n (.string x))] w fun e w'=>e=.returned (.tuple #[xS,xI 1])∧Below w.heap.size w w':=by
 have cR:=fun W=>zde s d t n x false ⟨fun h'=>(by cases h'),fun h'=>absurd h' h⟩ W
 have HB:Hid (Below w.heap.size w (w.alloc (.cells (xA s d t n (.string x)) 48))):=xr.alloc xl _
 go_enter Tryz.func48,Tryz.ntmps48
 go_wp2_with fail
 refine(cR _).mono ?_
 rintro e V1 ⟨rfl,hb⟩
 have HB2:=xh (HB.out.trans (hb.mono HB.out.size))
 clear hb cR
 go_wp2_with fail
 go_ret2
 exact⟨rfl,HB2.out⟩
theorem ziz (s d t n:Int)(x:ByteArray)(w:World)(h:PkOk s d t n x):
  Calls Tryz.prog 48 #[.agg (xA s d t n (.string x))] w fun e w'=>(∃r,e=.returned (.tuple #[r,xI 0])∧w'.ownsRow w.heap.size 5 1 r (pkB s d t n x).length ((pkB s d t n x).map (Value.int .u8)))∧Below w.heap.size w w':=by
 have cR:=fun W=>zde s d t n x true ⟨fun _=>h,fun _=>rfl⟩ W
 have HB:Hid (Below w.heap.size w (w.alloc (.cells (xA s d t n (.string x)) 48))):=xr.alloc xl _
 have OA:=xh (za1 w s d t n x 48 w.heap.size rfl)
 have HBY:=xh (zmD h)
 have hs1:IntKind.u8.wrap s=s:=by have:=h.1;rw[IntKind.wrap_u8];omega
 have hs2:IntKind.u8.wrap d=d:=by have:=h.2.1;rw[IntKind.wrap_u8];omega
 have hs3:IntKind.u8.wrap t=t:=by have:=h.2.2.1;rw[IntKind.wrap_u8];omega
 have hn:=h.2.2.2.1
 have hx:=h.2.2.2.2
 have ht1:n.tdiv 256=n/256:=Int.tdiv_eq_ediv_of_nonneg hn.1
 have ht2:n.tmod 256=n%256:=Int.tmod_eq_emod_of_nonneg hn.1
 have hx0:(0:Int)≤(x.size:Int):=Int.natCast_nonneg _
 have ht3:(x.size:Int).tdiv 256=(x.size:Int)/256:=Int.tdiv_eq_ediv_of_nonneg hx0
 have ht4:(x.size:Int).tmod 256=(x.size:Int)%256:=Int.tmod_eq_emod_of_nonneg hx0
 have hw1:IntKind.i64.wrap (n/256)=n/256:=by rw[IntKind.wrap_i64];omega
 have hw2:IntKind.i64.wrap (n%256)=n%256:=by rw[IntKind.wrap_i64];omega
 have hw3:IntKind.i64.wrap ((x.size:Int)/256)=(x.size:Int)/256:=by rw[IntKind.wrap_i64];omega
 have hw4:IntKind.i64.wrap ((x.size:Int)%256)=(x.size:Int)%256:=by rw[IntKind.wrap_i64];omega
 have hu1:IntKind.u8.wrap (n/256)=n/256:=by rw[IntKind.wrap_u8];omega
 have hu2:IntKind.u8.wrap (n%256)=n%256:=by rw[IntKind.wrap_u8];omega
 have hu3:IntKind.u8.wrap ((x.size:Int)/256)=(x.size:Int)/256:=by rw[IntKind.wrap_u8];omega
 have hu4:IntKind.u8.wrap ((x.size:Int)%256)=(x.size:Int)%256:=by rw[IntKind.wrap_u8];omega
 have hcv:=fun W=>zh4 x W
 have HX:=xh hx
 clear h hn hx hx0
 go_enter Tryz.func48,Tryz.ntmps48
 go_wp2_with fail
 refine(cR _).mono ?_
 rintro e V1 ⟨rfl,hb⟩
 replace OA:=xh (OA.out.below hb)
 have HB2:=xh (HB.out.trans (hb.mono HB.out.size))
 clear hb cR
 have q5:∀O,(V1.alloc O).cell? (w.heap.size,4)=some (.string x):=fun O=>(OA.out.below ((Below.refl _ V1).alloc xl O)).1.2.2.2.2
 obtain⟨⟨q0,q1,q2,q3,q4⟩,-⟩:=OA.out
 go_wp2_with fail
 have hb1:Below V1.heap.size V1 (V1.alloc (.cells #[.int .u8 s,.int .u8 d,.int .u8 t,.int .u8 (n/256),.int .u8 (n%256),.int .u8 ((x.size:Int)/256),.int .u8 ((x.size:Int)%256)] 5)):=(Below.refl _ V1).alloc xl _
 have R7:Bs (V1.alloc (.cells #[.int .u8 s,.int .u8 d,.int .u8 t,.int .u8 (n/256),.int .u8 (n%256),.int .u8 ((x.size:Int)/256),.int .u8 ((x.size:Int)%256)] 5)) (.slice (some (V1.heap.size,0)) 7 7) (hdB s d t n x.size):=zcZ (hdB s d t n x.size) 5 HBY.out (by simp[hdB]) _ rfl _ rfl 7 rfl
 have hb2:=zj3 (V1.alloc (.cells #[.int .u8 s,.int .u8 d,.int .u8 t,.int .u8 (n/256),.int .u8 (n%256),.int .u8 ((x.size:Int)/256),.int .u8 ((x.size:Int)%256)] 5)) x
 have RX:=zl1 (V1.alloc (.cells #[.int .u8 s,.int .u8 d,.int .u8 t,.int .u8 (n/256),.int .u8 (n%256),.int .u8 ((x.size:Int)/256),.int .u8 ((x.size:Int)%256)] 5)) x (by have:=HX.out;omega)
 have R7':=zaa R7 hb2
 simp only[World.size_alloc]at RX
 have HB3:Hid (Below w.heap.size w (bytesWorld (V1.alloc (.cells #[.int .u8 s,.int .u8 d,.int .u8 t,.int .u8 (n/256),.int .u8 (n%256),.int .u8 ((x.size:Int)/256),.int .u8 ((x.size:Int)%256)] 5)) 5 x)):=HB2.out.trans ((hb1.mono HB2.out.size).trans (hb2.mono (by have:=HB2.out.size;simp;omega)))
 refine(zj1 R7' RX _ (by have:=HX.out;rw[zdh];simp[hdB];omega)).mono ?_
 rintro e V9 ⟨r9,rfl,ho,-,hb9⟩
 have HO:=xh ho
 have HB9:Hid (Below w.heap.size w V9):=(HB3.out.alloc HB3.out.size _).trans (hb9.mono (by have:=HB3.out.size;simp at *;omega))
 have HS9:=HB3.out.size
 clear R7 R7' RX hb1 hb2 ho hb9 q5
 go_wp2_with fail
 go_ret2
 refine⟨⟨_,rfl,?_⟩,HB9.out⟩
 exact zas HO.out (by have:=HS9;simp;omega)
end
def szP (j:Nat):Int:=[1,1,1,2,2].getD j 0
def pP (xs:List Int)(q:Int):Nat→Int
 | 0=>q
 | j+1=>(getS xs (pP xs q j) (szP j)).2.1
def pV (xs:List Int)(q:Int)(j:Nat):Int:=(getS xs (pP xs q j) (szP j)).1
def pE (xs:List Int)(q:Int)(j:Nat):Int:=(getS xs (pP xs q j) (szP j)).2.2
def sub (xs:List Int)(q k:Int):ByteArray:=strOfNums ((xs.drop q.toNat).take k.toNat)
def endP (xs:List Int)(s d t n k q:Int):Int ⊕ (Pk×Int):=
 if k>256 then .inl 4
 else if(xs.length:Int)-q<k then .inl 6
 else if PkOk s d t n (sub xs q k)then .inr ((s,d,t,n,sub xs q k),q+k)else .inl 4
def pkPF (xs:List Int)(q:Int):Int ⊕ (Pk×Int):=
 if pE xs q 0≠0 then .inl (pE xs q 0)else if pE xs q 1≠0 then .inl (pE xs q 1)else if pE xs q 2≠0 then .inl (pE xs q 2)else if pE xs q 3≠0 then .inl (pE xs q 3)else if pE xs q 4≠0 then .inl (pE xs q 4)
 else endP xs (pV xs q 0) (pV xs q 1) (pV xs q 2) (pV xs q 3) (pV xs q 4) (pP xs q 5)
theorem zfb {xs:List Int}{q:Int}{j:Nat}(hj:j<5)(h0:∀i,i<j→pE xs q i=0)(h:pE xs q j≠0):pkPF xs q=.inl (pE xs q j):=by
 unfold pkPF
 have:j=0∨j=1∨j=2∨j=3∨j=4:=by omega
 rcases this with rfl|rfl|rfl|rfl|rfl
 ·rw[if_pos h]
 ·rw[if_neg (not_not_intro (h0 0 (by decide))),if_pos h]
 ·rw[if_neg (not_not_intro (h0 0 (by decide))),if_neg (not_not_intro (h0 1 (by decide))),if_pos h]
 ·rw[if_neg (not_not_intro (h0 0 (by decide))),if_neg (not_not_intro (h0 1 (by decide))),if_neg (not_not_intro (h0 2 (by decide))),if_pos h]
 ·rw[if_neg (not_not_intro (h0 0 (by decide))),if_neg (not_not_intro (h0 1 (by decide))),if_neg (not_not_intro (h0 2 (by decide))),if_neg (not_not_intro (h0 3 (by decide))),if_pos h]
theorem zfk {xs:List Int}{q:Int}(h0:∀i,i<5→pE xs q i=0):pkPF xs q=endP xs (pV xs q 0) (pV xs q 1) (pV xs q 2) (pV xs q 3) (pV xs q 4) (pP xs q 5):=by
 unfold pkPF
 rw[if_neg (not_not_intro (h0 0 (by decide))),if_neg (not_not_intro (h0 1 (by decide))),if_neg (not_not_intro (h0 2 (by decide))),if_neg (not_not_intro (h0 3 (by decide))),if_neg (not_not_intro (h0 4 (by decide)))]
theorem zeA {xs:List Int}{k n:Int}(h:(getS xs k n).2.2=0):0≤k∧(getS xs k n).2.1=k+n∧k+n≤xs.length∧1≤n:=by
 unfold getS at h ⊢
 split at h
 ·simp at h
 ·rename_i h1
  split at h
  ·simp at h
  ·rename_i h2
   rw[if_neg h1,if_neg h2]
   exact⟨by omega,rfl,by omega,by omega⟩
theorem zne {xs:List Int}{q:Int}(h0:∀i,i<5→pE xs q i=0):0≤q∧pP xs q 5=q+7∧q+7≤xs.length:=by
 have a0:=zeA (xs:=xs) (k:=pP xs q 0) (n:=szP 0) (h0 0 (by decide))
 have a1:=zeA (xs:=xs) (k:=pP xs q 1) (n:=szP 1) (h0 1 (by decide))
 have a2:=zeA (xs:=xs) (k:=pP xs q 2) (n:=szP 2) (h0 2 (by decide))
 have a3:=zeA (xs:=xs) (k:=pP xs q 3) (n:=szP 3) (h0 3 (by decide))
 have a4:=zeA (xs:=xs) (k:=pP xs q 4) (n:=szP 4) (h0 4 (by decide))
 have b0:pP xs q 1=pP xs q 0+1:=a0.2.1
 have b1:pP xs q 2=pP xs q 1+1:=a1.2.1
 have b2:pP xs q 3=pP xs q 2+1:=a2.2.1
 have b3:pP xs q 4=pP xs q 3+2:=a3.2.1
 have b4:pP xs q 5=pP xs q 4+2:=a4.2.1
 have c0:pP xs q 0=q:=rfl
 have d0:=a0.1
 have d4:pP xs q 4+2≤xs.length:=a4.2.2.1
 omega
theorem zlK {xs:List Int}(hx:∀x∈xs,0≤x∧x<256)(q:Int){j:Nat}(hj:j<5):0≤pV xs q j∧pV xs q j≤65535:=by
 unfold pV getS
 split
 ·simp
 ·split
  ·simp
  ·have h1:=zfK hx (pP xs q j).toNat (szP j).toNat
   have h2:zao (szP j).toNat≤65536:=by
    have:j=0∨j=1∨j=2∨j=3∨j=4:=by omega
    rcases this with rfl|rfl|rfl|rfl|rfl<;>decide
   show 0≤segN xs _ _∧segN xs _ _≤65535
   omega
theorem ziC (xs:List Int)(q:Int)(j:Nat):(List.range (j+1)).map (pV xs q)=(List.range j).map (pV xs q)++[pV xs q j]:=by
 rw[List.range_succ,List.map_append];rfl
def pkR (r:Int ⊕ (Pk×Int)):Pk:=match r with
 | .inl _=>(0,0,0,0,⟨#[]⟩)
 | .inr (p,_)=>p
def pkT (r:Int ⊕ (Pk×Int)):Int:=match r with
 | .inl _=>0
 | .inr (_,to)=>to
def pkE (r:Int ⊕ (Pk×Int)):Int:=match r with
 | .inl e=>e
 | .inr _=>0
theorem zcC {w:World}{b o cap:Nat}{xs:List Int}(h:Bs w (.slice (some ⟨b,o,none⟩) xs.length cap) xs)(i k:Nat)(hik:i+k≤xs.length)(c':Nat)(hc':k≤c'):Bs w (.slice (some ⟨b,o+i,none⟩) k c') ((xs.drop i).take k):=by
 have hl:((xs.drop i).take k).length=k:=by rw[List.length_take,List.length_drop];omega
 obtain⟨h1,h2,⟨a,cap',hv,-,rfl⟩|⟨b',o',cap',hv,hc,hcell⟩⟩:=h
 ·have hk:k=0:=by simp at hik;omega
  subst hk
  exact⟨by simp,by simp,.inl ⟨_,_,rfl,(fun h=>by cases h),by simp⟩⟩
 ·simp only[Value.slice.injEq,Option.some.injEq,Addr.mk.injEq,and_true,true_and]at hv
  obtain⟨⟨rfl,rfl⟩,rfl⟩:=hv
  refine⟨fun x hx=>h1 x (List.drop_subset _ _ (List.take_subset _ _ hx)),by omega,.inr ⟨b,o+i,c',by rw[hl],by rw[hl];exact hc',fun j hj=>?_⟩⟩
  rw[hl]at hj
  rw[Nat.add_assoc,hcell (i+j) (by omega)]
  simp[List.getD,hj]
theorem zcY {w:World}{b o cap:Nat}{xs:List Int}(h:Bs w (.slice (some ⟨b,o,none⟩) xs.length cap) xs)(i k:Nat)(hik:i+k≤xs.length)(hc:xs.length≤cap):Bs w (.slice (if cap=i then some ⟨b,o,none⟩else some ⟨b,o+i,none⟩) k (cap-i)) ((xs.drop i).take k):=by
 split
 ·have hk:k=0:=by omega
  subst hk
  exact⟨by simp,by simp,.inl ⟨_,_,rfl,(fun h=>by cases h),by simp⟩⟩
 ·exact zcC h i k hik (cap-i) (by omega)
theorem zgw {f m xs:List Int}{v:Int}{n:Nat}{q z:Int}(hxs:xs=f++(lo v n++m))(hq:q=(f.length:Int))(hz:z=(n:Int))(h1:1≤n)(h7:n≤7)(hv:0≤v∧v<zao n):getS xs q z=(v,q+z,0):=by
 subst hxs;subst hq;subst hz
 have hp:zcJ v (n:Int):=⟨by omega,by omega,hv.1,by simpa using hv.2⟩
 have:=zdx f m hp
 have hB:putB v (n:Int)=lo v n:=by unfold putB;rw[if_pos hp];simp
 rw[hB]at this
 exact this
theorem zfL {xs:List Int}(hx:∀x∈xs,0≤x∧x<256){n K:Nat}(h:(getS xs (K:Int) (n:Int)).2.2=0):
  K+n≤xs.length∧(getS xs (K:Int) (n:Int)).2.1=((K+n:Nat):Int)∧lo (getS xs (K:Int) (n:Int)).1 n=(xs.drop K).take n:=by
 unfold getS at h ⊢
 split at h
 ·simp at h
 ·rename_i hn
  rw[if_neg hn]
  split at h
  ·simp at h
  ·rename_i hl
   rw[if_neg hl]
   have hlen:K+n≤xs.length:=by omega
   refine⟨hlen,by simp,?_⟩
   unfold segN
   simp only[Int.toNat_natCast]
   have hl2:((xs.drop K).take n).length=n:=by simp;omega
   have:=zgF ((xs.drop K).take n) (fun x hx'=>hx x (List.drop_subset _ _ (List.take_subset _ _ hx')))
   rw[hl2]at this
   exact this
theorem zgC {v:Int}(h:0≤v∧v≤255):lo v 1=[v]:=by
 unfold lo
 simp
 omega
theorem zku {v:Int}(h:0≤v∧v≤65535):lo v 2=[v/256,v%256]:=by
 have e:lo v 2=[v/256^1%256,v/256^0%256]:=rfl
 rw[e,Int.pow_succ,Int.pow_zero,Int.one_mul,Int.ediv_one]
 have:v/256%256=v/256:=by omega
 rw[this]
theorem zl2 (x:ByteArray):strOfNums (bl x)=x:=by
 apply ByteArray.ext
 unfold strOfNums bl
 simp only[List.map_map]
 have:((fun n:Int=>UInt8.ofNat n.toNat)∘fun b:UInt8=>(b.toNat:Int))=id:=by
  funext b
  simp
 rw[this,List.map_id]
theorem zpb {xs:List Int}(h:∀v∈xs,0≤v∧v<256):bl (strOfNums xs)=xs:=by
 unfold strOfNums bl
 rw[List.toList_toArray,List.map_map]
 conv=>rhs;rw[←List.map_id xs]
 apply List.map_congr_left
 intro v hv
 have:=h v hv
 simp
 omega
theorem zlY {xs:List Int}{i k:Nat}(h:i+k≤xs.length):(strOfNums ((xs.drop i).take k)).size=k:=by
 rw[strOfNums_size,List.length_take,List.length_drop];omega
theorem znl {s d t n k:Int}(hs:0≤s∧s≤255)(hd:0≤d∧d≤255)(ht:0≤t∧t≤255)(hn:0≤n∧n≤65535)(hk:0≤k∧k≤65535)(m:List Int):hdB s d t n k++m=lo s 1++(lo d 1++(lo t 1++(lo n 2++(lo k 2++m)))):=by
 rw[zgC hs,zgC hd,zgC ht,zku hn,zku hk];rfl
theorem zpe {f m xs:List Int}{s d t n k q:Int}(hs:0≤s∧s≤255)(hd:0≤d∧d≤255)(ht:0≤t∧t≤255)(hn:0≤n∧n≤65535)(hk:0≤k∧k≤65535)(hxs:xs=f++(hdB s d t n k++m))(hq:q=(f.length:Int)):
  (∀i,i<5→pE xs q i=0)∧pP xs q 5=q+7∧pV xs q 0=s∧pV xs q 1=d∧pV xs q 2=t∧pV xs q 3=n∧pV xs q 4=k:=by
 rw[znl hs hd ht hn hk]at hxs
 have g0:getS xs q 1=(s,q+1,0):=zgw hxs hq rfl (by decide) (by decide) ⟨hs.1,by have:=hs.2;show s<256*1;omega⟩
 have g1:getS xs (q+1) 1=(d,q+1+1,0):=zgw (f:=f++lo s 1) (m:=lo t 1++(lo n 2++(lo k 2++m))) (by rw[hxs];simp) (by rw[hq];simp[zan]) rfl (by decide) (by decide) ⟨hd.1,by have:=hd.2;show d<256*1;omega⟩
 have g2:getS xs (q+1+1) 1=(t,q+1+1+1,0):=zgw (f:=f++lo s 1++lo d 1) (m:=lo n 2++(lo k 2++m)) (by rw[hxs];simp) (by rw[hq];simp[zan];omega) rfl (by decide) (by decide) ⟨ht.1,by have:=ht.2;show t<256*1;omega⟩
 have g3:getS xs (q+1+1+1) 2=(n,q+1+1+1+2,0):=zgw (f:=f++lo s 1++lo d 1++lo t 1) (m:=lo k 2++m) (by rw[hxs];simp) (by rw[hq];simp[zan];omega) rfl (by decide) (by decide) ⟨hn.1,by have:=hn.2;show n<256*(256*1);omega⟩
 have g4:getS xs (q+1+1+1+2) 2=(k,q+1+1+1+2+2,0):=zgw (f:=f++lo s 1++lo d 1++lo t 1++lo n 2) (m:=m) (by rw[hxs];simp) (by rw[hq];simp[zan];omega) rfl (by decide) (by decide) ⟨hk.1,by have:=hk.2;show k<256*(256*1);omega⟩
 have p1:pP xs q 1=q+1:=by show(getS xs q 1).2.1=_;rw[g0]
 have p2:pP xs q 2=q+1+1:=by show(getS xs (pP xs q 1) 1).2.1=_;rw[p1,g1]
 have p3:pP xs q 3=q+1+1+1:=by show(getS xs (pP xs q 2) 1).2.1=_;rw[p2,g2]
 have p4:pP xs q 4=q+1+1+1+2:=by show(getS xs (pP xs q 3) 2).2.1=_;rw[p3,g3]
 have p5:pP xs q 5=q+1+1+1+2+2:=by show(getS xs (pP xs q 4) 2).2.1=_;rw[p4,g4]
 refine⟨fun i hi=>?_,by rw[p5];omega,by show(getS xs q 1).1=_;rw[g0],by show(getS xs (pP xs q 1) 1).1=_;rw[p1,g1],by show(getS xs (pP xs q 2) 1).1=_;rw[p2,g2],by show(getS xs (pP xs q 3) 2).1=_;rw[p3,g3],by show(getS xs (pP xs q 4) 2).1=_;rw[p4,g4]⟩
 have:i=0∨i=1∨i=2∨i=3∨i=4:=by omega
 rcases this with rfl|rfl|rfl|rfl|rfl
 ·show(getS xs q 1).2.2=0;rw[g0]
 ·show(getS xs (pP xs q 1) 1).2.2=0;rw[p1,g1]
 ·show(getS xs (pP xs q 2) 1).2.2=0;rw[p2,g2]
 ·show(getS xs (pP xs q 3) 2).2.2=0;rw[p3,g3]
 ·show(getS xs (pP xs q 4) 2).2.2=0;rw[p4,g4]
theorem zlm {f m:List Int}{s d t n:Int}{x:ByteArray}(h:PkOk s d t n x):pkPF (f++(pkB s d t n x++m)) f.length=.inr ((s,d,t,n,x),(f.length:Int)+(7+x.size)):=by
 obtain⟨h0,h1,h2,h3,h4⟩:=h
 obtain⟨xs,hxs⟩:∃xs,f++(pkB s d t n x++m)=xs:=⟨_,rfl⟩
 have hx1:xs=f++(hdB s d t n x.size++(bl x++m)):=by rw[←hxs,pkB,List.append_assoc]
 obtain⟨e,p5,v0,v1,v2,v3,v4⟩:=zpe (q:=(f.length:Int)) (by omega) (by omega) h2 h3 ⟨Int.natCast_nonneg _,by omega⟩ hx1 rfl
 rw[hxs,zfk e,v0,v1,v2,v3,v4,p5]
 have hsub:sub xs ((f.length:Int)+7) (x.size:Int)=x:=by
  unfold sub
  have e1:((f.length:Int)+7).toNat=(f++hdB s d t n x.size).length:=by simp[hdB];omega
  have e2:xs=(f++hdB s d t n x.size)++(bl x++m):=by rw[hx1,List.append_assoc]
  rw[e1,e2,List.drop_left,Int.toNat_natCast,←zdh,List.take_left]
  exact zl2 x
 have hlen:(xs.length:Int)-((f.length:Int)+7)=x.size+m.length:=by
  rw[hx1];simp[hdB,zdh];omega
 unfold endP
 rw[if_neg (by omega),if_neg (by rw[hlen];omega),hsub,if_pos ⟨h0,h1,h2,h3,h4⟩]
 simp
 omega
theorem zkX {xs:List Int}(hx:∀v∈xs,0≤v∧v<256){s d t n:Int}{x:ByteArray}{to:Int}(h:pkPF xs 0=.inr ((s,d,t,n,x),to)):
  PkOk s d t n x∧∃K:Nat,to=(K:Int)∧7≤K∧K≤xs.length∧pkB s d t n x=xs.take K:=by
 have he:∀i,i<5→pE xs 0 i=0:=fun i hi=>by
  rcases Classical.em (pE xs 0 i=0)with h9|h9
  ·exact h9
  ·exfalso
   induction i using Nat.strongRecOn with
   | _ i ih=>
    rcases Classical.em (∃j,j<i∧pE xs 0 j≠0)with ⟨j,hj,hj2⟩|hno
    ·exact ih j hj (by omega) hj2
    ·rw[zfb hi (fun j hj=>Classical.byContradiction fun hh=>hno ⟨j,hj,hh⟩) h9]at h
     cases h
 rw[zfk he]at h
 obtain⟨_,p5,hl⟩:=zne he
 have b4:=zlK hx 0 (j:=4) (by decide)
 have b3:=zlK hx 0 (j:=3) (by decide)
 have q0:pP xs 0 0=((0:Nat):Int):=rfl
 have a0:=zfL hx (K:=0) (n:=1) (he 0 (by decide))
 have q1:pP xs 0 1=((1:Nat):Int):=a0.2.1
 have a1:=zfL hx (K:=1) (n:=1) (by have:=he 1 (by decide);unfold pE at this;rw[q1]at this;exact this)
 have q2:pP xs 0 2=((2:Nat):Int):=by rw[pP,q1];exact a1.2.1
 have a2:=zfL hx (K:=2) (n:=1) (by have:=he 2 (by decide);unfold pE at this;rw[q2]at this;exact this)
 have q3:pP xs 0 3=((3:Nat):Int):=by rw[pP,q2];exact a2.2.1
 have a3:=zfL hx (K:=3) (n:=2) (by have:=he 3 (by decide);unfold pE at this;rw[q3]at this;exact this)
 have q4:pP xs 0 4=((5:Nat):Int):=by rw[pP,q3];exact a3.2.1
 have a4:=zfL hx (K:=5) (n:=2) (by have:=he 4 (by decide);unfold pE at this;rw[q4]at this;exact this)
 have w0:lo (pV xs 0 0) 1=(xs.drop 0).take 1:=a0.2.2
 have w1:lo (pV xs 0 1) 1=(xs.drop 1).take 1:=by unfold pV;rw[q1];exact a1.2.2
 have w2:lo (pV xs 0 2) 1=(xs.drop 2).take 1:=by unfold pV;rw[q2];exact a2.2.2
 have w3:lo (pV xs 0 3) 2=(xs.drop 3).take 2:=by unfold pV;rw[q3];exact a3.2.2
 have w4:lo (pV xs 0 4) 2=(xs.drop 5).take 2:=by unfold pV;rw[q4];exact a4.2.2
 generalize pV xs 0 0=m0 at*
 generalize pV xs 0 1=m1 at*
 generalize pV xs 0 2=m2 at*
 generalize pV xs 0 3=m3 at*
 generalize pV xs 0 4=m4 at*
 rw[p5]at h
 unfold endP at h
 split at h
 ·cases h
 ·rename_i k1
  split at h
  ·cases h
  ·rename_i k2
   split at h
   ·rename_i hok
    simp only[Sum.inr.injEq,Prod.mk.injEq]at h
    obtain⟨⟨rfl,rfl,rfl,rfl,rfl⟩,rfl⟩:=h
    obtain⟨k,rfl⟩:=Int.eq_ofNat_of_zero_le b4.1
    have hk:7+k≤xs.length:=by omega
    have hsz:(sub xs (0+7) (k:Int)).size=k:=by unfold sub;exact zlY hk
    refine⟨hok,7+k,by omega,by omega,hk,?_⟩
    have hb:bl (sub xs (0+7) (k:Int))=(xs.drop 7).take k:=by
     unfold sub
     exact zpb (fun v hv=>hx v (List.drop_subset _ _ (List.take_subset _ _ hv)))
    obtain⟨o0,o1,o2,o3,-⟩:=hok
    unfold pkB
    rw[hsz,hb]
    have e1:=znl (s:=m0) (d:=m1) (t:=m2) (n:=m3) (k:=(k:Int)) (by omega) (by omega) o2 o3 ⟨Int.natCast_nonneg _,by omega⟩ ((xs.drop 7).take k)
    rw[e1,w0,w1,w2,w3,w4]
    rw[show xs.take (7+k)=(xs.drop 0).take (7+k)by simp]
    have st:∀i a b (r:List Int),(xs.drop (i+a)).take b=r→(xs.drop i).take a++r=(xs.drop i).take (a+b):=fun i a b r hr=>by
     rw[List.take_add,List.drop_drop,←hr]
    rw[st 5 2 k _ rfl,st 3 2 (2+k) _ rfl,st 2 1 (2+(2+k)) _ rfl,st 1 1 (1+(2+(2+k))) _ rfl,st 0 1 (1+(1+(2+(2+k)))) _ rfl]
    congr 1
    omega
   ·cases h
end Go.Proofs.YtjghebcnmoojmaaGreat
