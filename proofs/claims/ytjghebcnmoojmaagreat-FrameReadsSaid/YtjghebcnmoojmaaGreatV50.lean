/- A frame's bytes, as the document says them. -/
import Derived.Test.YtjghebcnmoojmaaGreatV35
set_option maxRecDepth 100000
set_option maxHeartbeats 32000000
namespace Go.Proofs.YtjghebcnmoojmaaGreat
open Go.RowKit MX
theorem zfi {ops:Array Oper}{rest:List Oper}{o:Oper}{a:Act}{Q:Exit→Act→World→Prop}{w:World}(hgd:o.guard=none)(s x:Operand)
  (ho:o.op=.call {callee:=.builtin .append,args:=#[s,x],argTypes:=#[26,26]}) (base:Nat) (xs ys:List Int)
  (hown:w.ownsRow base 5 1 (a.eval s) xs.length (xs.map (Value.int .u8))) (hx:Bs w (a.eval x) ys) (h63:xs.length+ys.length≤100000) (hbase:base≤w.heap.size)
  (h:∀v' w',w'.ownsRow base 5 1 v' (xs++ys).length ((xs++ys).map (Value.int .u8))→Below base w w'→w.heap.size≤w'.heap.size→wpList Tryz.prog ops Q rest (a.put o.dst v') w'):wpList Tryz.prog ops Q (o::rest) a w:=by
 obtain⟨i0,hi,hz0,hz1,hz2⟩:=info_parts Tryz.info5
 obtain⟨_,_,⟨ad,cap,hv,hz,rfl⟩|⟨b,off,cap,hv,hcap,hcs⟩⟩:=hx
 ·cases ad with
  | none=>
   obtain rfl:cap=0:=hz rfl
   refine wpList_append_own_none hgd s x 26 ho base 5 i0 1 Tryz.underlying26 hi _ _ _ rfl hown hv ?_
   rw[List.append_nil]at h
   exact h _ _ hown xr xl
  | some ad=>
   refine wpList_append_own w hgd s x 26 ho base 5 i0 (.int .u8 0) 1 1 Tryz.underlying26 hi hz0 hz1 hz2 rfl (by decide) _ _ _ rfl hown ad 0 cap [] hv (by simp) (by simp) (by simp) (by unfold maxLen;omega) (by omega) hbase fun v' w1 hown1 hgrow _=>?_
   refine h v' w1 (by simpa using hown1) (xr.grown hgrow hbase (fun k hk=>(hown.lt k hk).1)) hgrow.size
 ·refine wpList_append_own w hgd s x 26 ho base 5 i0 (.int .u8 0) 1 1 Tryz.underlying26 hi hz0 hz1 hz2 rfl (by decide) _ _ _ rfl hown ⟨b,off,none⟩ ys.length cap (ys.map (Value.int .u8)) hv (by simp) (zdD hcs) (ones ys) (by unfold maxLen;omega) (by omega) hbase fun v' w1 hown1 hgrow _=>?_
  refine h v' w1 ?_ (xr.grown hgrow hbase (fun k hk=>(hown.lt k hk).1)) hgrow.size
  rw[List.length_append,List.map_append];exact hown1
theorem zhN {ops:Array Oper}{rest:List Oper}{o:Oper}{a:Act}{Q:Exit→Act→World→Prop}{w:World}(hgd:o.guard=none)(s x:Operand)
  (ho:o.op=.call {callee:=.builtin .append,args:=#[s,x],argTypes:=#[26,26]}) (base:Nat) (xs ys:List Int)
  (hown:w.ownsRow base 5 1 (a.eval s) xs.length (xs.map (Value.int .u8))) (hx:Bs w (a.eval x) ys) (h63:xs.length+ys.length≤100000) (hbase:base≤w.heap.size)
  (h:∀v' w',w'.ownsRow base 5 1 v' (xs++ys).length ((xs++ys).map (Value.int .u8))→Below base w w'→w.heap.size≤w'.heap.size→w.grownBy w' (a.eval s).ownBlock→wpList Tryz.prog ops Q rest (a.put o.dst v') w'):wpList Tryz.prog ops Q (o::rest) a w:=by
 obtain⟨i0,hi,hz0,hz1,hz2⟩:=info_parts Tryz.info5
 obtain⟨_,_,⟨ad,cap,hv,hz,rfl⟩|⟨b,off,cap,hv,hcap,hcs⟩⟩:=hx
 ·cases ad with
  | none=>
   obtain rfl:cap=0:=hz rfl
   refine wpList_append_own_none hgd s x 26 ho base 5 i0 1 Tryz.underlying26 hi _ _ _ rfl hown hv ?_
   rw[List.append_nil]at h
   exact h _ _ hown xr xl ⟨rfl,rfl,rfl,Nat.le_refl _,fun _ _ _=>rfl⟩
  | some ad=>
   refine wpList_append_own w hgd s x 26 ho base 5 i0 (.int .u8 0) 1 1 Tryz.underlying26 hi hz0 hz1 hz2 rfl (by decide) _ _ _ rfl hown ad 0 cap [] hv (by simp) (by simp) (by simp) (by unfold maxLen;omega) (by omega) hbase fun v' w1 hown1 hgrow _=>?_
   refine h v' w1 (by simpa using hown1) (xr.grown hgrow hbase (fun k hk=>(hown.lt k hk).1)) hgrow.size hgrow
 ·refine wpList_append_own w hgd s x 26 ho base 5 i0 (.int .u8 0) 1 1 Tryz.underlying26 hi hz0 hz1 hz2 rfl (by decide) _ _ _ rfl hown ⟨b,off,none⟩ ys.length cap (ys.map (Value.int .u8)) hv (by simp) (zdD hcs) (ones ys) (by unfold maxLen;omega) (by omega) hbase fun v' w1 hown1 hgrow _=>?_
  refine h v' w1 ?_ (xr.grown hgrow hbase (fun k hk=>(hown.lt k hk).1)) hgrow.size hgrow
  rw[List.length_append,List.map_append];exact hown1
theorem zfP {w:World}{v1 v2 v3 v4 v5:Value}{x1 x2 x3 x4 x5:List Int}(h1:Bs w v1 x1)(h2:Bs w v2 x2)(h3:Bs w v3 x3)(h4:Bs w v4 x4)(h5:Bs w v5 x5)(T:TypeId)(tot:x1.length+x2.length+x3.length+x4.length+x5.length≤5000):
  Calls Tryz.prog 17 #[.slice (some (w.heap.size,0)) 5 5] (w.alloc (.cells #[v1,v2,v3,v4,v5] T)) (zfV (x1++(x2++(x3++(x4++x5)))) (w.alloc (.cells #[v1,v2,v3,v4,v5] T))):=by
 have h:=zfj w.heap.size [v1,v2,v3,v4,v5] [x1,x2,x3,x4,x5] (w.alloc (.cells #[v1,v2,v3,v4,v5] T)) rfl (zed w [v1,v2,v3,v4,v5] T) (fun i hi=>by
  have:i=0∨i=1∨i=2∨i=3∨i=4:=by simp at hi;omega
  rcases this with rfl|rfl|rfl|rfl|rfl
  ·exact zbz h1 _
  ·exact zbz h2 _
  ·exact zbz h3 _
  ·exact zbz h4 _
  ·exact zbz h5 _) (by simp;omega) (by simp)
 simpa using h
def frL (fr ep to pe:Int)(ps:List Pt):List Int:=if FrOk fr ep to pe ps then frB fr ep to pe ps else[]
def frK (fr ep to pe:Int)(ps:List Pt):Int:=if FrOk fr ep to pe ps then 0 else 1
def RetF (w:World)(fr ep to pe:Int)(ps:List Pt)(e:Ending)(w':World):Prop:=
 (∃a c,e=.returned (.tuple #[.slice a (frL fr ep to pe ps).length c,xI (frK fr ep to pe ps)])∧Bs w' (.slice a (frL fr ep to pe ps).length c) (frL fr ep to pe ps)∧(frL fr ep to pe ps).length≤c∧(FrOk fr ep to pe ps→w'.ownsRow w.heap.size 5 1 (.slice a (frL fr ep to pe ps).length c) (frL fr ep to pe ps).length ((frL fr ep to pe ps).map (Value.int .u8))))∧Below w.heap.size w w'
theorem zbc {w w':World}{fr ep to pe:Int}{ps:List Pt}(h:¬FrOk fr ep to pe ps)(hb:Below w.heap.size w w'):RetF w fr ep to pe ps (.returned (.tuple #[xS,xI 1])) w':=by
 unfold RetF frL frK
 rw[if_neg h,if_neg h]
 exact⟨⟨none,0,rfl,zd0 w',Nat.le_refl _,fun h'=>absurd h' h⟩,hb⟩
theorem zgY {w w':World}{fr ep to pe:Int}{ps:List Pt}{v:Value}(h:FrOk fr ep to pe ps)(ho:w'.ownsRow w.heap.size 5 1 v (frB fr ep to pe ps).length ((frB fr ep to pe ps).map (Value.int .u8)))(hb:Below w.heap.size w w'):RetF w fr ep to pe ps (.returned (.tuple #[v,xI 0])) w':=by
 unfold RetF frL frK
 rw[if_pos h,if_pos h]
 obtain⟨a,c,rfl⟩:=zap ho
 have hc:(frB fr ep to pe ps).length≤c:=by
  rcases ho.2 with ⟨h9,h8⟩|⟨g,cap,cur,h4,_,_,h5,_⟩
  ·simp only[Value.slice.injEq]at h9;omega
  ·simp only[Value.slice.injEq]at h4;omega
 exact⟨⟨a,c,rfl,zaq ho (zmP h) (by rw[zfp];have:=h.2.2;omega),hc,fun _=>ho⟩,hb⟩
theorem own3 {w:World}{fr ep to pe:Int}{ps:List Pt}{v:Value}{n:Nat}(h:w.ownsRow n 5 1 v (frB0 fr ep to pe ps++[sumN (frB0 fr ep to pe ps)/256,sumN (frB0 fr ep to pe ps)%256]).length ((frB0 fr ep to pe ps++[sumN (frB0 fr ep to pe ps)/256,sumN (frB0 fr ep to pe ps)%256]).map (Value.int .u8))):w.ownsRow n 5 1 v (frB fr ep to pe ps).length ((frB fr ep to pe ps).map (Value.int .u8)):=h
theorem zgu (fr ep to pe:Int)(a:Option Addr)(c:Nat)(ps:List Pt)(w:World)(_:Ps w (.slice a ps.length c) ps)(_:∀i,i<ps.length→zaR (ps.getD i zPt))(_:ps.length≤1000)(hn:¬FrHd fr ep to pe ps.length):
  Calls Tryz.prog 11 #[.agg (xA fr ep to pe (.slice a ps.length c))] w (RetF w fr ep to pe ps):=by
 have OF:=xh (zav w fr ep to pe (.slice a ps.length c) 24 w.heap.size rfl)
 have HB:Hid (Below w.heap.size w (w.alloc (.cells (xA fr ep to pe (.slice a ps.length c)) 24))):=xr.alloc xl _
 by_cases a0:fr<0
 ·skip
  have xF0:decide (fr<0)=true:=decide_eq_true (by omega)
  obtain⟨⟨u0,u1,u2,u3,u4⟩,-⟩:=OF.out
  go_enter Tryz.func11,Tryz.ntmps11
  go_wp2_with fail
  go_ret2
  exact zbc (fun h=>hn h.1) HB.out
 by_cases a1:64≤fr
 ·skip
  have xF0:decide (fr<0)=false:=decide_eq_false (by omega)
  have xF1:decide (64≤fr)=true:=decide_eq_true (by omega)
  obtain⟨⟨u0,u1,u2,u3,u4⟩,-⟩:=OF.out
  go_enter Tryz.func11,Tryz.ntmps11
  go_wp2_with fail
  go_ret2
  exact zbc (fun h=>hn h.1) HB.out
 by_cases a2:to<0
 ·skip
  have xF0:decide (fr<0)=false:=decide_eq_false (by omega)
  have xF1:decide (64≤fr)=false:=decide_eq_false (by omega)
  have xF2:decide (to<0)=true:=decide_eq_true (by omega)
  obtain⟨⟨u0,u1,u2,u3,u4⟩,-⟩:=OF.out
  go_enter Tryz.func11,Tryz.ntmps11
  go_wp2_with fail
  go_ret2
  exact zbc (fun h=>hn h.1) HB.out
 by_cases a3:64≤to∧to≠255
 ·skip
  have xF0:decide (fr<0)=false:=decide_eq_false (by omega)
  have xF1:decide (64≤fr)=false:=decide_eq_false (by omega)
  have xF2:decide (to<0)=false:=decide_eq_false (by omega)
  have xF3:decide (64≤to)=true:=decide_eq_true (by omega)
  have xF4:(to !=255)=true:=by simp only[bne_iff_ne,ne_eq];omega
  obtain⟨⟨u0,u1,u2,u3,u4⟩,-⟩:=OF.out
  go_enter Tryz.func11,Tryz.ntmps11
  go_wp2_with fail
  go_ret2
  exact zbc (fun h=>hn h.1) HB.out
 by_cases m:to<64
 ·skip
  by_cases e1:EpOk ep
  ·by_cases e2:EpOk pe
   ·skip
    by_cases l1:ps.length<1
    ·skip
     have xF0:decide (fr<0)=false:=decide_eq_false (by omega)
     have xF1:decide (64≤fr)=false:=decide_eq_false (by omega)
     have xF2:decide (to<0)=false:=decide_eq_false (by omega)
     have xF3:decide (64≤to)=false:=decide_eq_false (by omega)
     have xF5:(to==255)=false:=by simp only[beq_eq_false_iff_ne,ne_eq];omega
     have xF7:decide ((ps.length:Int)<1)=true:=decide_eq_true (by omega)
     have c1:=fun W=>zam ep true ⟨fun _=>e1,fun _=>rfl⟩ W
     have c2:=fun W=>zam pe true ⟨fun _=>e2,fun _=>rfl⟩ W
     obtain⟨⟨u0,u1,u2,u3,u4⟩,-⟩:=OF.out
     go_enter Tryz.func11,Tryz.ntmps11
     go_wp2_with fail
     refine(c1 _).mono ?_
     rintro e w1 ⟨rfl,hw⟩
     subst hw
     go_wp2_with fail
     refine(c2 _).mono ?_
     rintro e w2 ⟨rfl,hw⟩
     subst hw
     go_wp2_with fail
     go_ret2
     exact zbc (fun h=>hn h.1) HB.out
    by_cases l2:8<ps.length
    ·skip
     have xF0:decide (fr<0)=false:=decide_eq_false (by omega)
     have xF1:decide (64≤fr)=false:=decide_eq_false (by omega)
     have xF2:decide (to<0)=false:=decide_eq_false (by omega)
     have xF3:decide (64≤to)=false:=decide_eq_false (by omega)
     have xF5:(to==255)=false:=by simp only[beq_eq_false_iff_ne,ne_eq];omega
     have xF7:decide ((ps.length:Int)<1)=false:=decide_eq_false (by omega)
     have xF8:decide (8<(ps.length:Int))=true:=decide_eq_true (by omega)
     have c1:=fun W=>zam ep true ⟨fun _=>e1,fun _=>rfl⟩ W
     have c2:=fun W=>zam pe true ⟨fun _=>e2,fun _=>rfl⟩ W
     obtain⟨⟨u0,u1,u2,u3,u4⟩,-⟩:=OF.out
     go_enter Tryz.func11,Tryz.ntmps11
     go_wp2_with fail
     refine(c1 _).mono ?_
     rintro e w1 ⟨rfl,hw⟩
     subst hw
     go_wp2_with fail
     refine(c2 _).mono ?_
     rintro e w2 ⟨rfl,hw⟩
     subst hw
     go_wp2_with fail
     go_ret2
     exact zbc (fun h=>hn h.1) HB.out
    exact absurd ⟨by omega,by omega,e1,e2,by omega,by omega⟩ hn
   ·skip
    have xF0:decide (fr<0)=false:=decide_eq_false (by omega)
    have xF1:decide (64≤fr)=false:=decide_eq_false (by omega)
    have xF2:decide (to<0)=false:=decide_eq_false (by omega)
    have xF3:decide (64≤to)=false:=decide_eq_false (by omega)
    have c1:=fun W=>zam ep true ⟨fun _=>e1,fun _=>rfl⟩ W
    have c2:=fun W=>zam pe false ⟨fun h=>(by cases h),fun h=>absurd h e2⟩ W
    obtain⟨⟨u0,u1,u2,u3,u4⟩,-⟩:=OF.out
    go_enter Tryz.func11,Tryz.ntmps11
    go_wp2_with fail
    refine(c1 _).mono ?_
    rintro e w1 ⟨rfl,hw⟩
    subst hw
    go_wp2_with fail
    refine(c2 _).mono ?_
    rintro e w2 ⟨rfl,hw⟩
    subst hw
    go_wp2_with fail
    go_ret2
    exact zbc (fun h=>hn h.1) HB.out
  ·skip
   have xF0:decide (fr<0)=false:=decide_eq_false (by omega)
   have xF1:decide (64≤fr)=false:=decide_eq_false (by omega)
   have xF2:decide (to<0)=false:=decide_eq_false (by omega)
   have xF3:decide (64≤to)=false:=decide_eq_false (by omega)
   have c1:=fun W=>zam ep false ⟨fun h=>(by cases h),fun h=>absurd h e1⟩ W
   obtain⟨⟨u0,u1,u2,u3,u4⟩,-⟩:=OF.out
   go_enter Tryz.func11,Tryz.ntmps11
   go_wp2_with fail
   refine(c1 _).mono ?_
   rintro e w1 ⟨rfl,hw⟩
   subst hw
   go_wp2_with fail
   go_ret2
   exact zbc (fun h=>hn h.1) HB.out
 ·skip
  by_cases e1:EpOk ep
  ·by_cases e2:EpOk pe
   ·skip
    by_cases p0:pe=0
    ·skip
     by_cases l1:ps.length<1
     ·skip
      have xF0:decide (fr<0)=false:=decide_eq_false (by omega)
      have xF1:decide (64≤fr)=false:=decide_eq_false (by omega)
      have xF2:decide (to<0)=false:=decide_eq_false (by omega)
      have xF3:decide (64≤to)=true:=decide_eq_true (by omega)
      have xF4:(to !=255)=false:=by simp only[bne_eq_false_iff_eq];omega
      have xF5:(to==255)=true:=by simp only[beq_iff_eq];omega
      have xF6:(pe !=0)=false:=by simp only[bne_eq_false_iff_eq];omega
      have xF7:decide ((ps.length:Int)<1)=true:=decide_eq_true (by omega)
      clear p0
      have c1:=fun W=>zam ep true ⟨fun _=>e1,fun _=>rfl⟩ W
      have c2:=fun W=>zam pe true ⟨fun _=>e2,fun _=>rfl⟩ W
      obtain⟨⟨u0,u1,u2,u3,u4⟩,-⟩:=OF.out
      go_enter Tryz.func11,Tryz.ntmps11
      go_wp2_with fail
      refine(c1 _).mono ?_
      rintro e w1 ⟨rfl,hw⟩
      subst hw
      go_wp2_with fail
      refine(c2 _).mono ?_
      rintro e w2 ⟨rfl,hw⟩
      subst hw
      go_wp2_with fail
      go_ret2
      exact zbc (fun h=>hn h.1) HB.out
     by_cases l2:8<ps.length
     ·skip
      have xF0:decide (fr<0)=false:=decide_eq_false (by omega)
      have xF1:decide (64≤fr)=false:=decide_eq_false (by omega)
      have xF2:decide (to<0)=false:=decide_eq_false (by omega)
      have xF3:decide (64≤to)=true:=decide_eq_true (by omega)
      have xF4:(to !=255)=false:=by simp only[bne_eq_false_iff_eq];omega
      have xF5:(to==255)=true:=by simp only[beq_iff_eq];omega
      have xF6:(pe !=0)=false:=by simp only[bne_eq_false_iff_eq];omega
      have xF7:decide ((ps.length:Int)<1)=false:=decide_eq_false (by omega)
      have xF8:decide (8<(ps.length:Int))=true:=decide_eq_true (by omega)
      clear p0
      have c1:=fun W=>zam ep true ⟨fun _=>e1,fun _=>rfl⟩ W
      have c2:=fun W=>zam pe true ⟨fun _=>e2,fun _=>rfl⟩ W
      obtain⟨⟨u0,u1,u2,u3,u4⟩,-⟩:=OF.out
      go_enter Tryz.func11,Tryz.ntmps11
      go_wp2_with fail
      refine(c1 _).mono ?_
      rintro e w1 ⟨rfl,hw⟩
      subst hw
      go_wp2_with fail
      refine(c2 _).mono ?_
      rintro e w2 ⟨rfl,hw⟩
      subst hw
      go_wp2_with fail
      go_ret2
      exact zbc (fun h=>hn h.1) HB.out
     exact absurd ⟨by omega,by omega,e1,e2,by omega,by omega⟩ hn
    ·skip
     have xF0:decide (fr<0)=false:=decide_eq_false (by omega)
     have xF1:decide (64≤fr)=false:=decide_eq_false (by omega)
     have xF2:decide (to<0)=false:=decide_eq_false (by omega)
     have xF3:decide (64≤to)=true:=decide_eq_true (by omega)
     have xF4:(to !=255)=false:=by simp only[bne_eq_false_iff_eq];omega
     have xF5:(to==255)=true:=by simp only[beq_iff_eq];omega
     have xF6:(pe !=0)=true:=by simp only[bne_iff_ne,ne_eq];omega
     have c1:=fun W=>zam ep true ⟨fun _=>e1,fun _=>rfl⟩ W
     have c2:=fun W=>zam pe true ⟨fun _=>e2,fun _=>rfl⟩ W
     obtain⟨⟨u0,u1,u2,u3,u4⟩,-⟩:=OF.out
     go_enter Tryz.func11,Tryz.ntmps11
     go_wp2_with fail
     refine(c1 _).mono ?_
     rintro e w1 ⟨rfl,hw⟩
     subst hw
     go_wp2_with fail
     refine(c2 _).mono ?_
     rintro e w2 ⟨rfl,hw⟩
     subst hw
     go_wp2_with fail
     go_ret2
     exact zbc (fun h=>hn h.1) HB.out
   ·skip
    have xF0:decide (fr<0)=false:=decide_eq_false (by omega)
    have xF1:decide (64≤fr)=false:=decide_eq_false (by omega)
    have xF2:decide (to<0)=false:=decide_eq_false (by omega)
    have xF3:decide (64≤to)=true:=decide_eq_true (by omega)
    have xF4:(to !=255)=false:=by simp only[bne_eq_false_iff_eq];omega
    have c1:=fun W=>zam ep true ⟨fun _=>e1,fun _=>rfl⟩ W
    have c2:=fun W=>zam pe false ⟨fun h=>(by cases h),fun h=>absurd h e2⟩ W
    obtain⟨⟨u0,u1,u2,u3,u4⟩,-⟩:=OF.out
    go_enter Tryz.func11,Tryz.ntmps11
    go_wp2_with fail
    refine(c1 _).mono ?_
    rintro e w1 ⟨rfl,hw⟩
    subst hw
    go_wp2_with fail
    refine(c2 _).mono ?_
    rintro e w2 ⟨rfl,hw⟩
    subst hw
    go_wp2_with fail
    go_ret2
    exact zbc (fun h=>hn h.1) HB.out
  ·skip
   have xF0:decide (fr<0)=false:=decide_eq_false (by omega)
   have xF1:decide (64≤fr)=false:=decide_eq_false (by omega)
   have xF2:decide (to<0)=false:=decide_eq_false (by omega)
   have xF3:decide (64≤to)=true:=decide_eq_true (by omega)
   have xF4:(to !=255)=false:=by simp only[bne_eq_false_iff_eq];omega
   have c1:=fun W=>zam ep false ⟨fun h=>(by cases h),fun h=>absurd h e1⟩ W
   obtain⟨⟨u0,u1,u2,u3,u4⟩,-⟩:=OF.out
   go_enter Tryz.func11,Tryz.ntmps11
   go_wp2_with fail
   refine(c1 _).mono ?_
   rintro e w1 ⟨rfl,hw⟩
   subst hw
   go_wp2_with fail
   go_ret2
   exact zbc (fun h=>hn h.1) HB.out
theorem zf2 {w w':World}{B n:Nat}{r u:Value}{xs:List Value}(h:w.ownsRow B 5 1 r n xs)(hg:w.grownBy w' u.ownBlock)(hu:∀g,u.ownBlock=some g→g<B):w'.ownsRow B 5 1 r n xs:=by
 refine⟨h.1,?_⟩
 rcases h.2 with h2|⟨g,cap,cur,rfl,h3,hc,rest⟩
 ·exact .inl h2
 ·refine .inr ⟨g,cap,cur,rfl,h3,?_,rest⟩
  rw[hg.block g (Array.getElem?_eq_some_iff.1 hc).1 (fun e=>by have:=hu g e.symm;omega)];exact hc
theorem zfD (fr ep to pe:Int)(a:Option Addr)(c:Nat)(ps:List Pt)(w:World)(h:Ps w (.slice a ps.length c) ps)(hf:∀i,i<ps.length→zaR (ps.getD i zPt))(hl:ps.length≤1000)(hn:FrHd fr ep to pe ps.length)(m:to<64):
  Calls Tryz.prog 11 #[.agg (xA fr ep to pe (.slice a ps.length c))] w (RetF w fr ep to pe ps):=by
 have OF:=xh (zav w fr ep to pe (.slice a ps.length c) 24 w.heap.size rfl)
 have HB:Hid (Below w.heap.size w (w.alloc (.cells (xA fr ep to pe (.slice a ps.length c)) 24))):=xr.alloc xl _
 have HN:=xh hn
 have hfr:=hn.lo
 obtain⟨b1,b2,e1,e2,b5,b6⟩:=hn
 have xF0:decide (fr<0)=false:=decide_eq_false (by omega)
 have xF1:decide (64≤fr)=false:=decide_eq_false (by omega)
 have xF2:decide (to<0)=false:=decide_eq_false (by omega)
 have xF3:decide (64≤to)=false:=decide_eq_false (by omega)
 have xF5:(to==255)=false:=by simp only[beq_eq_false_iff_ne,ne_eq];omega
 have xF7:decide ((ps.length:Int)<1)=false:=decide_eq_false (by omega)
 have xF8:decide (8<(ps.length:Int))=false:=decide_eq_false (by omega)
 have c1:=fun W=>zam ep true ⟨fun _=>e1,fun _=>rfl⟩ W
 have c2:=fun W=>zam pe true ⟨fun _=>e2,fun _=>rfl⟩ W
 have HX:=xh (h.below HB.out)
 have HI:=xh hf
 have HE1:=xh e1
 have HE2:=xh e2
 have HFR:=xh hfr
 have HP8:Hid (ps.length≤8):=b6
 have v1:IntKind.u8.wrap fr=fr:=by have:=hfr.1;rw[IntKind.wrap_u8];omega
 have v2:IntKind.u8.wrap to=to:=by have:=hfr.2.1;rw[IntKind.wrap_u8];omega
 have v3:IntKind.u8.wrap (ps.length:Int)=(ps.length:Int):=by have:=hfr.2.2;rw[IntKind.wrap_u8];omega
 clear h hf hl hfr b1 b2 b5 b6 e1 e2 m
 obtain⟨⟨u0,u1,u2,u3,u4⟩,-⟩:=OF.out
 go_enter Tryz.func11,Tryz.ntmps11
 go_wp2_with fail
 refine(c1 _).mono ?_
 rintro e w1 ⟨rfl,hw⟩
 subst hw
 go_wp2_with fail
 refine(c2 _).mono ?_
 rintro e w2 ⟨rfl,hw⟩
 subst hw
 go_wp2_with fail
 clear u0 u1 u2 u3 u4 c1 c2 xF0 xF1 xF2 xF3 xF5 xF7 xF8
 obtain⟨g0,hg0⟩:∃g,w.heap.size=g:=⟨_,rfl⟩
 obtain⟨V,hV⟩:∃V,w.alloc (.cells (xA fr ep to pe (.slice a ps.length c)) 24)=V:=⟨_,rfl⟩
 have HS:Hid (V.heap.size=g0+1):=by show _=_;rw[←hV,←hg0];simp
 rw[hV]at HX HB OF
 rw[hg0]at OF
 try rw[hV]
 try rw[hg0]
 have HG:Hid (w.heap.size=g0):=hg0
 clear hV hg0
 go_loopw [4,5] (fun v i wr=>∃(k:Nat) (u:Value),k≤ps.length∧i=xI k∧u=v∧wr.ownsRow V.heap.size 5 1 u (psB (ps.take k)).length ((psB (ps.take k)).map (Value.int .u8))∧(∀j,j<k→(ps.getD j zPt).Ok)∧Below V.heap.size V wr) (fun _ i _=>ps.length-(intOf i).toNat)
 case atStart=>exact⟨0,_,Nat.zero_le _,rfl,rfl,World.ownsRow_nil _ _ _ _,fun j h=>absurd h (Nat.not_lt_zero _),Below.refl _ _⟩
 case round=>
  obtain⟨k,u,hk,rfl,rfl,hrow,hall,hbel⟩:=hrel
  have HR:=xh hrow
  have HA:=xh hall
  have HBV:=xh hbel
  have HSV:Hid (V.heap.size≤wr.heap.size):=hbel.size
  have HW:Hid (∀g,u.ownBlock=some g→g<wr.heap.size):=fun g hg=>(World.ownsRow.lt hrow g hg).2
  have hX:=HX.out.below hbel
  have OF1:=xh (OF.out.below hbel)
  have hlen:(psB (ps.take k)).length≤4824:=by
   have h1:=zft (ps:=ps.take k) (fun i hi=>by
    have hi':i<k:=by rw[List.length_take]at hi;omega
    have h2:=hall i hi'
    have e:(ps.take k).getD i zPt=ps.getD i zPt:=by simp[List.getD,hi']
    rw[e];exact h2)
   have h2:(ps.take k).length≤8:=by rw[List.length_take];have:=HP8.out;omega
   omega
  have HLEN:=xh hlen
  clear hrow hall hbel hlen
  by_cases hlt:k<ps.length
  ·obtain⟨b,off,r,rfl,hb1,x,hr⟩:=hX.at hlt
   have HF:=xh (HI.out k hlt)
   have hst:=zfq ps k hlt
   obtain⟨p1,hp1⟩:∃p,ps.getD k zPt=p:=⟨_,rfl⟩
   rw[hp1]at hr HF hst
   have HK1:=xh hp1
   have HST:=xh hst
   have HKR:Hid (r.k=p1.k):=hr.k
   have X:=xh x
   have hk9:(ps.length:Int)≤8:=by have:=HP8.out;omega
   have hk0:(0:Int)≤(k:Int):=by omega
   have hk1:(k:Int)<(ps.length:Int):=by omega
   have hkn:((k:Int)).toNat=k:=Int.toNat_natCast k
   clear hp1 hst
   obtain⟨x0,x1,x2,x3,x4,x5,x6,x7,x8,x9,x10⟩:=x
   obtain⟨⟨u0,u1,u2,u3,u4⟩,-⟩:=OF1.out
   go_wp2_with fail
   clear x0 x1 x2 x3 x4 x5 x6 x7 x8 x9 x10 u0 u1 u2 u3 u4
   refine(zgk r p1 _ hr HF.out).mono ?_
   rintro e V1 ⟨⟨a9,l9,c9,q,rfl,hq,hbs⟩,hb⟩
   replace HR:=xh (zae HR.out hb)
   replace HBV:=xh (HBV.out.trans (hb.mono HSV.out))
   replace OF1:=xh (OF1.out.below hb)
   replace X:=xh (X.out.below hb)
   have HSV1:Hid (V.heap.size≤V1.heap.size):=Nat.le_trans HSV.out hb.size
   clear hb hr
   cases q with
   | false=>
    go_wp2_with fail
    go_ret2
    refine zbc (fun h=>?_) (HB.out.trans (HBV.out.mono HB.out.size))
    have:=hq.2 (by rw[←HK1.out];exact h.2.1 k hlt)
    cases this
   | true=>
    have hpk:=hq.1 rfl
    obtain⟨hl9,hB9⟩:=hbs rfl
    subst hl9
    have hbl:=Pt.bs_len hpk
    have hrb:=Pt.row_byt hpk
    have hpb:=Pt.bs_byt hpk
    obtain⟨P,hP⟩:∃P,psB (ps.take k)=P:=⟨_,rfl⟩
    obtain⟨L,hL⟩:∃L,p1.bs.length=L:=⟨_,rfl⟩
    have hrow:p1.row=[p1.k,(L:Int)/256,(L:Int)%256]++p1.bs:=by rw[←hL];rfl
    rw[hP]at HR HLEN
    rw[hrow]at hrb
    rw[hP,hrow]at HST
    rw[hL]at hbl hB9
    rw[hL]
    have hkb:0≤p1.k∧p1.k<256:=hrb _ (by simp)
    have HBL:=xh hbl
    have HRB:=xh hrb
    have HPB:=xh hpb
    have HB9:=xh hB9
    have HPK:=xh hpk
    have HLL:Hid (p1.bs.length=L):=hL
    have t1:IntKind.u8.wrap r.k=p1.k:=by rw[HKR.out,IntKind.wrap_u8];omega
    have t2:(L:Int).tdiv 256=(L:Int)/256:=Int.tdiv_eq_ediv_of_nonneg (Int.natCast_nonneg _)
    have t3:(L:Int).tmod 256=(L:Int)%256:=Int.tmod_eq_emod_of_nonneg (Int.natCast_nonneg _)
    have t4:IntKind.i64.wrap ((L:Int)/256)=(L:Int)/256:=by rw[IntKind.wrap_i64];omega
    have t5:IntKind.i64.wrap ((L:Int)%256)=(L:Int)%256:=by rw[IntKind.wrap_i64];omega
    have t6:IntKind.u8.wrap ((L:Int)/256)=(L:Int)/256:=by rw[IntKind.wrap_u8];omega
    have t7:IntKind.u8.wrap ((L:Int)%256)=(L:Int)%256:=by rw[IntKind.wrap_u8];omega
    clear hq hbs hpk hB9 hbl hrb hP hL hrow hpb
    obtain⟨x0,x1,x2,x3,x4,x5,x6,x7,x8,x9,x10⟩:=X.out
    obtain⟨⟨u0,u1,u2,u3,u4⟩,-⟩:=OF1.out
    have hal:=(Below.refl V1.heap.size V1).alloc xl (.cells #[.int .u8 p1.k,.int .u8 ((L:Int)/256),.int .u8 ((L:Int)%256)] 5)
    have LT:=xh (zcZ (w:=V1) [p1.k,(L:Int)/256,(L:Int)%256] 5 (fun y hy=>HRB.out y (List.mem_append_left _ hy)) (by simp) (.cells #[.int .u8 p1.k,.int .u8 ((L:Int)/256),.int .u8 ((L:Int)%256)] 5) rfl V1.heap.size rfl 3 rfl)
    have HRa:=xh (zae HR.out hal)
    have HB9a:=xh (zae HB9.out hal)
    have HBVa:=xh (HBV.out.trans (hal.mono HSV1.out))
    have HSV2:Hid (V.heap.size≤(V1.alloc (.cells #[.int .u8 p1.k,.int .u8 ((L:Int)/256),.int .u8 ((L:Int)%256)] 5)).heap.size):=Nat.le_trans HSV1.out hal.size
    clear hal
    go_wp2_with (at_builtin;first|(refine zhN rfl (.tmp 90) (.tmp 106) rfl V.heap.size P [p1.k,(L:Int)/256,(L:Int)%256] HRa.out LT.out (by have:=HLEN.out;simp;omega) HSV2.out ?_;intro v2 w2 ho hb2 hs2 hgr;have HR2:=xh ho;have HBV2:=xh (HBVa.out.trans hb2);have HS2:Hid (V.heap.size≤w2.heap.size):=Nat.le_trans HSV2.out hs2;have HQ9:=xh (zf2 HB9a.out hgr HW.out);clear ho hb2 hs2 hgr)|(refine zfi rfl (.tmp 108) (.tmp 109) rfl V.heap.size (P++[p1.k,(L:Int)/256,(L:Int)%256]) p1.bs HR2.out (zaq HQ9.out HPB.out (by rw[HLL.out];have:=HBL.out;omega)) (by have:=HLEN.out;have:=HLL.out;have:=HBL.out;simp;omega) HS2.out ?_;intro v3 w3 ho hb2 hs2;have HR3:=xh ho;have HBV3:=xh (HBV2.out.trans hb2);clear ho hb2 hs2))
    go_roundw
    case rel=>
     refine⟨k+1,_,by omega,by go_num,rfl,by rw[HST.out,←List.append_assoc];exact HR3.out,fun j hj=>?_,HBV3.out⟩
     by_cases h:j<k
     ·exact HA.out j h
     ·obtain rfl:j=k:=by omega
      rw[HK1.out];exact HPK.out
    case measure=>simp[intOf];omega
  ·obtain rfl:k=ps.length:=by omega
   have hall:AllP ps:=HA.out
   have HALL:=xh hall
   have hpb:=zg3 hall
   have HPB:=xh hpb
   rw[List.take_length]at HR HLEN
   obtain⟨P,hP⟩:∃P,psB ps=P:=⟨_,rfl⟩
   rw[hP]at HR HLEN HPB
   have HPP:Hid (psB ps=P):=hP
   clear hall hpb hP
   obtain⟨uc,uu,rfl⟩:=zap HR.out
   have hln:(P.length:Int)≤4824:=by have:=HLEN.out;omega
   obtain⟨M,hM⟩:∃M:Int,17+(P.length:Int)=M:=⟨_,rfl⟩
   have hw1:IntKind.i64.wrap (17+(P.length:Int))=M:=by rw[hM,IntKind.wrap_i64];omega
   have HM:=xh hM
   have hM0:0≤M∧M≤5000:=by omega
   obtain⟨⟨u0,u1,u2,u3,u4⟩,-⟩:=OF1.out
   by_cases hbig:M>1400
   ·have hbd:decide (M>1400)=true:=decide_eq_true hbig
    go_wp2_with fail
    go_ret2
    refine zbc (fun h=>?_) (HB.out.trans (HBV.out.mono HB.out.size))
    have h9:=h.2.2
    rw[HPP.out]at h9
    have:=HM.out
    omega
   ·have hbd:decide (M>1400)=false:=decide_eq_false hbig
    have HBG:Hid (FrOk fr ep to pe ps):=⟨HN.out,HALL.out,by rw[HPP.out];have:=HM.out;omega⟩
    have t2:M.tdiv 256=M/256:=Int.tdiv_eq_ediv_of_nonneg hM0.1
    have t3:M.tmod 256=M%256:=Int.tmod_eq_emod_of_nonneg hM0.1
    have t4:IntKind.i64.wrap (M/256)=M/256:=by rw[IntKind.wrap_i64];omega
    have t5:IntKind.i64.wrap (M%256)=M%256:=by rw[IntKind.wrap_i64];omega
    have t6:IntKind.u8.wrap (M/256)=M/256:=by rw[IntKind.wrap_u8];omega
    have t7:IntKind.u8.wrap (M%256)=M%256:=by rw[IntKind.wrap_u8];omega
    have HM0:=xh hM0
    clear hM hM0 hln hbig
    go_wp2_with fail
    clear u0 u1 u2 u3 u4
    refine(ziB ep _ HE1.out).mono ?_
    rintro e V2 ⟨r2,rfl,ho2,hb⟩
    replace HR:=xh (zae HR.out hb)
    replace HBV:=xh (HBV.out.trans (hb.mono HSV.out))
    replace OF1:=xh (OF1.out.below hb)
    replace HSV:Hid (V.heap.size≤V2.heap.size):=Nat.le_trans HSV.out hb.size
    have R2:=xh (zaq ho2 (zcW ep 4) (by rw[zan];omega))
    clear hb ho2
    obtain⟨⟨u0,u1,u2,u3,u4⟩,-⟩:=OF1.out
    go_wp2_with fail
    clear u0 u1 u2 u3 u4
    refine(ziB pe _ HE2.out).mono ?_
    rintro e V3 ⟨r3,rfl,ho3,hb⟩
    replace HR:=xh (zae HR.out hb)
    replace R2:=xh (zaa R2.out hb)
    replace HBV:=xh (HBV.out.trans (hb.mono HSV.out))
    replace OF1:=xh (OF1.out.below hb)
    replace HSV:Hid (V.heap.size≤V3.heap.size):=Nat.le_trans HSV.out hb.size
    have R3:=xh (zaq ho3 (zcW pe 4) (by rw[zan];omega))
    clear hb ho3
    obtain⟨a2,c2,rfl⟩:=zcO R2.out
    obtain⟨a3,c3,rfl⟩:=zcO R3.out
    have hal:=(Below.refl V3.heap.size V3).alloc xl (.cells #[.int .u8 84,.int .u8 1,.int .u8 fr,.int .u8 to] 5)
    have L4:=xh (zcZ (w:=V3) [84,1,fr,to] 5 (fun y hy=>by have:=HFR.out;simp only[List.mem_cons,List.not_mem_nil,or_false]at hy;rcases hy with rfl|rfl|rfl|rfl<;>omega) (by simp) (.cells #[.int .u8 84,.int .u8 1,.int .u8 fr,.int .u8 to] 5) rfl V3.heap.size rfl 4 rfl)
    have HRa:=xh (zae HR.out hal)
    replace R2:=xh (zaa R2.out hal)
    replace R3:=xh (zaa R3.out hal)
    have HBVa:=xh (HBV.out.trans (hal.mono HSV.out))
    have OFa:=xh (OF1.out.below hal)
    have hsz:(V3.alloc (.cells #[.int .u8 84,.int .u8 1,.int .u8 fr,.int .u8 to] 5)).heap.size=V3.heap.size+1:=by simp
    clear hal
    have hal:=(Below.refl (V3.alloc (.cells #[.int .u8 84,.int .u8 1,.int .u8 fr,.int .u8 to] 5)).heap.size (V3.alloc (.cells #[.int .u8 84,.int .u8 1,.int .u8 fr,.int .u8 to] 5))).alloc xl (.cells #[.int .u8 (M/256),.int .u8 (M%256),.int .u8 (ps.length:Int)] 5)
    have L3:=xh (zcZ (w:=V3.alloc (.cells #[.int .u8 84,.int .u8 1,.int .u8 fr,.int .u8 to] 5)) [M/256,M%256,(ps.length:Int)] 5 (fun y hy=>by have:=HM0.out;have:=HP8.out;simp only[List.mem_cons,List.not_mem_nil,or_false]at hy;rcases hy with rfl|rfl|rfl<;>omega) (by simp) (.cells #[.int .u8 (M/256),.int .u8 (M%256),.int .u8 (ps.length:Int)] 5) rfl (V3.heap.size+1) hsz.symm 3 rfl)
    replace HRa:=xh (zae HRa.out hal)
    replace R2:=xh (zaa R2.out hal)
    replace R3:=xh (zaa R3.out hal)
    replace L4:=xh (zaa L4.out hal)
    replace HBVa:=xh (HBVa.out.trans (hal.mono (Nat.le_trans HSV.out (by rw[hsz];omega))))
    clear hal
    have hb5:=xh (zfP L4.out R2.out R3.out L3.out (zaq HRa.out HPB.out (by have:=HLEN.out;omega)) 26 (by rw[zan,zan];have:=HLEN.out;simp;omega))
    have q4:∀O,(V3.alloc O).cell? (xQ g0 4)=some (.slice a ps.length c):=fun O=>(OF1.out.below ((Below.refl _ V3).alloc xl O)).1.2.2.2.2
    obtain⟨⟨u0,u1,u2,u3,u4⟩,-⟩:=OF1.out
    have HS9:Hid (((V3.alloc (.cells #[.int .u8 84,.int .u8 1,.int .u8 fr,.int .u8 to] 5)).alloc (.cells #[.int .u8 (M/256),.int .u8 (M%256),.int .u8 (ps.length:Int)] 5)).heap.size=V3.heap.size+2):=by show _=_;simp
    rw[HS9.out]at hb5
    go_wp2_with fail
    clear u0 u1 u2 u3 u4 q4
    refine hb5.out.mono ?_
    rintro e V4 ⟨r5,rfl,ho,hby,hb⟩
    have hbc:=((HBVa.out.alloc (Nat.le_trans HSV.out (by rw[HS9.out];omega)) (.cells #[.slice (some (V3.heap.size,0)) 4 4,.slice a2 (lo ep 4).length c2,.slice a3 (lo pe 4).length c3,.slice (some (V3.heap.size+1,0)) 3 3,.slice uc P.length uu] 26)).trans (hb.mono (Nat.le_trans HSV.out (by simp;omega))))
    have hB0:[84,1,fr,to]++(lo ep 4++(lo pe 4++([M/256,M%256,(ps.length:Int)]++P)))=frB0 fr ep to pe ps:=by
     unfold frB0 zbB
     rw[HPP.out,HM.out]
     simp
    rw[hB0]at ho hby
    have HO:=xh ho
    have HBY:=xh hby
    have HB4:=xh hbc
    have HS4:Hid (V.heap.size≤V4.heap.size):=Nat.le_trans HSV.out (Nat.le_trans (by simp;omega) hb.size)
    clear ho hby hb hbc hB0
    obtain⟨a5,c5,rfl⟩:=zap HO.out
    have RS:=xh (zaq HO.out HBY.out (by rw[zbP,HPP.out];have:=HLEN.out;omega))
    go_wp2_with fail
    refine(zfA _ _ _ RS.out).mono ?_
    rintro e V5 ⟨rfl,hw⟩
    subst hw
    have hsb:=zdM (frB0 fr ep to pe ps)
    obtain⟨Z,hZ⟩:∃Z,sumN (frB0 fr ep to pe ps)=Z:=⟨_,rfl⟩
    rw[hZ]at hsb ⊢
    have HZ:=xh hZ
    have HSB:=xh hsb
    have z2:Z.tdiv 256=Z/256:=Int.tdiv_eq_ediv_of_nonneg hsb.1
    have z3:Z.tmod 256=Z%256:=Int.tmod_eq_emod_of_nonneg hsb.1
    have z4:IntKind.i64.wrap (Z/256)=Z/256:=by rw[IntKind.wrap_i64];omega
    have z5:IntKind.i64.wrap (Z%256)=Z%256:=by rw[IntKind.wrap_i64];omega
    have z6:IntKind.u8.wrap (Z/256)=Z/256:=by rw[IntKind.wrap_u8];omega
    have z7:IntKind.u8.wrap (Z%256)=Z%256:=by rw[IntKind.wrap_u8];omega
    clear hZ hsb t2 t3 t4 t5 t6 t7 hw1 hbd
    have hal:=(Below.refl V4.heap.size V4).alloc xl (.cells #[.int .u8 (Z/256),.int .u8 (Z%256)] 5)
    have LZ:=xh (zcZ (w:=V4) [Z/256,Z%256] 5 (fun y hy=>by have:=HSB.out;simp only[List.mem_cons,List.not_mem_nil,or_false]at hy;rcases hy with rfl|rfl<;>omega) (by simp) (.cells #[.int .u8 (Z/256),.int .u8 (Z%256)] 5) rfl V4.heap.size rfl 2 rfl)
    have HO2:=xh (zas (zae HO.out hal) (show w.heap.size≤_ from Nat.le_trans HB.out.size (Nat.le_trans HSV.out (by simp;omega))))
    have HB5:=xh (HB.out.trans ((HB4.out.trans (hal.mono HS4.out)).mono HB.out.size))
    clear hal
    go_wp2_with (at_builtin;(skip;refine zfi rfl (.tmp 153) (.tmp 160) rfl w.heap.size (frB0 fr ep to pe ps) [Z/256,Z%256] HO2.out LZ.out (by rw[zbP,HPP.out];have:=HLEN.out;simp;omega) HB5.out.size ?_;intro v6 w6 ho hb2 hs2;have HR6:=xh ho;have HB6:=xh (HB5.out.trans hb2);clear ho hb2 hs2))
    go_ret2
    exact zgY HBG.out (own3 (by rw[HZ.out];exact HR6.out)) HB6.out
theorem zfr (fr ep to pe:Int)(a:Option Addr)(c:Nat)(ps:List Pt)(w:World)(h:Ps w (.slice a ps.length c) ps)(hf:∀i,i<ps.length→zaR (ps.getD i zPt))(hl:ps.length≤1000)(hn:FrHd fr ep to pe ps.length)(m:¬to<64):
  Calls Tryz.prog 11 #[.agg (xA fr ep to pe (.slice a ps.length c))] w (RetF w fr ep to pe ps):=by
 have OF:=xh (zav w fr ep to pe (.slice a ps.length c) 24 w.heap.size rfl)
 have HB:Hid (Below w.heap.size w (w.alloc (.cells (xA fr ep to pe (.slice a ps.length c)) 24))):=xr.alloc xl _
 have HN:=xh hn
 have hfr:=hn.lo
 obtain⟨b1,b2,e1,e2,b5,b6⟩:=hn
 have xF0:decide (fr<0)=false:=decide_eq_false (by omega)
 have xF1:decide (64≤fr)=false:=decide_eq_false (by omega)
 have xF2:decide (to<0)=false:=decide_eq_false (by omega)
 have xF3:decide (64≤to)=true:=decide_eq_true (by omega)
 have xF4:(to !=255)=false:=by simp only[bne_eq_false_iff_eq];omega
 have xF5:(to==255)=true:=by simp only[beq_iff_eq];omega
 have xF6:(pe !=0)=false:=by simp only[bne_eq_false_iff_eq];omega
 have xF7:decide ((ps.length:Int)<1)=false:=decide_eq_false (by omega)
 have xF8:decide (8<(ps.length:Int))=false:=decide_eq_false (by omega)
 have c1:=fun W=>zam ep true ⟨fun _=>e1,fun _=>rfl⟩ W
 have c2:=fun W=>zam pe true ⟨fun _=>e2,fun _=>rfl⟩ W
 have HX:=xh (h.below HB.out)
 have HI:=xh hf
 have HE1:=xh e1
 have HE2:=xh e2
 have HFR:=xh hfr
 have HP8:Hid (ps.length≤8):=b6
 have v1:IntKind.u8.wrap fr=fr:=by have:=hfr.1;rw[IntKind.wrap_u8];omega
 have v2:IntKind.u8.wrap to=to:=by have:=hfr.2.1;rw[IntKind.wrap_u8];omega
 have v3:IntKind.u8.wrap (ps.length:Int)=(ps.length:Int):=by have:=hfr.2.2;rw[IntKind.wrap_u8];omega
 clear h hf hl hfr b1 b2 b5 b6 e1 e2 m
 obtain⟨⟨u0,u1,u2,u3,u4⟩,-⟩:=OF.out
 go_enter Tryz.func11,Tryz.ntmps11
 go_wp2_with fail
 refine(c1 _).mono ?_
 rintro e w1 ⟨rfl,hw⟩
 subst hw
 go_wp2_with fail
 refine(c2 _).mono ?_
 rintro e w2 ⟨rfl,hw⟩
 subst hw
 go_wp2_with fail
 clear u0 u1 u2 u3 u4 c1 c2 xF0 xF1 xF2 xF3 xF4 xF5 xF6 xF7 xF8
 obtain⟨g0,hg0⟩:∃g,w.heap.size=g:=⟨_,rfl⟩
 obtain⟨V,hV⟩:∃V,w.alloc (.cells (xA fr ep to pe (.slice a ps.length c)) 24)=V:=⟨_,rfl⟩
 have HS:Hid (V.heap.size=g0+1):=by show _=_;rw[←hV,←hg0];simp
 rw[hV]at HX HB OF
 rw[hg0]at OF
 try rw[hV]
 try rw[hg0]
 have HG:Hid (w.heap.size=g0):=hg0
 clear hV hg0
 go_loopw [4,5] (fun v i wr=>∃(k:Nat) (u:Value),k≤ps.length∧i=xI k∧u=v∧wr.ownsRow V.heap.size 5 1 u (psB (ps.take k)).length ((psB (ps.take k)).map (Value.int .u8))∧(∀j,j<k→(ps.getD j zPt).Ok)∧Below V.heap.size V wr) (fun _ i _=>ps.length-(intOf i).toNat)
 case atStart=>exact⟨0,_,Nat.zero_le _,rfl,rfl,World.ownsRow_nil _ _ _ _,fun j h=>absurd h (Nat.not_lt_zero _),Below.refl _ _⟩
 case round=>
  obtain⟨k,u,hk,rfl,rfl,hrow,hall,hbel⟩:=hrel
  have HR:=xh hrow
  have HA:=xh hall
  have HBV:=xh hbel
  have HSV:Hid (V.heap.size≤wr.heap.size):=hbel.size
  have HW:Hid (∀g,u.ownBlock=some g→g<wr.heap.size):=fun g hg=>(World.ownsRow.lt hrow g hg).2
  have hX:=HX.out.below hbel
  have OF1:=xh (OF.out.below hbel)
  have hlen:(psB (ps.take k)).length≤4824:=by
   have h1:=zft (ps:=ps.take k) (fun i hi=>by
    have hi':i<k:=by rw[List.length_take]at hi;omega
    have h2:=hall i hi'
    have e:(ps.take k).getD i zPt=ps.getD i zPt:=by simp[List.getD,hi']
    rw[e];exact h2)
   have h2:(ps.take k).length≤8:=by rw[List.length_take];have:=HP8.out;omega
   omega
  have HLEN:=xh hlen
  clear hrow hall hbel hlen
  by_cases hlt:k<ps.length
  ·obtain⟨b,off,r,rfl,hb1,x,hr⟩:=hX.at hlt
   have HF:=xh (HI.out k hlt)
   have hst:=zfq ps k hlt
   obtain⟨p1,hp1⟩:∃p,ps.getD k zPt=p:=⟨_,rfl⟩
   rw[hp1]at hr HF hst
   have HK1:=xh hp1
   have HST:=xh hst
   have HKR:Hid (r.k=p1.k):=hr.k
   have X:=xh x
   have hk9:(ps.length:Int)≤8:=by have:=HP8.out;omega
   have hk0:(0:Int)≤(k:Int):=by omega
   have hk1:(k:Int)<(ps.length:Int):=by omega
   have hkn:((k:Int)).toNat=k:=Int.toNat_natCast k
   clear hp1 hst
   obtain⟨x0,x1,x2,x3,x4,x5,x6,x7,x8,x9,x10⟩:=x
   obtain⟨⟨u0,u1,u2,u3,u4⟩,-⟩:=OF1.out
   go_wp2_with fail
   clear x0 x1 x2 x3 x4 x5 x6 x7 x8 x9 x10 u0 u1 u2 u3 u4
   refine(zgk r p1 _ hr HF.out).mono ?_
   rintro e V1 ⟨⟨a9,l9,c9,q,rfl,hq,hbs⟩,hb⟩
   replace HR:=xh (zae HR.out hb)
   replace HBV:=xh (HBV.out.trans (hb.mono HSV.out))
   replace OF1:=xh (OF1.out.below hb)
   replace X:=xh (X.out.below hb)
   have HSV1:Hid (V.heap.size≤V1.heap.size):=Nat.le_trans HSV.out hb.size
   clear hb hr
   cases q with
   | false=>
    go_wp2_with fail
    go_ret2
    refine zbc (fun h=>?_) (HB.out.trans (HBV.out.mono HB.out.size))
    have:=hq.2 (by rw[←HK1.out];exact h.2.1 k hlt)
    cases this
   | true=>
    have hpk:=hq.1 rfl
    obtain⟨hl9,hB9⟩:=hbs rfl
    subst hl9
    have hbl:=Pt.bs_len hpk
    have hrb:=Pt.row_byt hpk
    have hpb:=Pt.bs_byt hpk
    obtain⟨P,hP⟩:∃P,psB (ps.take k)=P:=⟨_,rfl⟩
    obtain⟨L,hL⟩:∃L,p1.bs.length=L:=⟨_,rfl⟩
    have hrow:p1.row=[p1.k,(L:Int)/256,(L:Int)%256]++p1.bs:=by rw[←hL];rfl
    rw[hP]at HR HLEN
    rw[hrow]at hrb
    rw[hP,hrow]at HST
    rw[hL]at hbl hB9
    rw[hL]
    have hkb:0≤p1.k∧p1.k<256:=hrb _ (by simp)
    have HBL:=xh hbl
    have HRB:=xh hrb
    have HPB:=xh hpb
    have HB9:=xh hB9
    have HPK:=xh hpk
    have HLL:Hid (p1.bs.length=L):=hL
    have t1:IntKind.u8.wrap r.k=p1.k:=by rw[HKR.out,IntKind.wrap_u8];omega
    have t2:(L:Int).tdiv 256=(L:Int)/256:=Int.tdiv_eq_ediv_of_nonneg (Int.natCast_nonneg _)
    have t3:(L:Int).tmod 256=(L:Int)%256:=Int.tmod_eq_emod_of_nonneg (Int.natCast_nonneg _)
    have t4:IntKind.i64.wrap ((L:Int)/256)=(L:Int)/256:=by rw[IntKind.wrap_i64];omega
    have t5:IntKind.i64.wrap ((L:Int)%256)=(L:Int)%256:=by rw[IntKind.wrap_i64];omega
    have t6:IntKind.u8.wrap ((L:Int)/256)=(L:Int)/256:=by rw[IntKind.wrap_u8];omega
    have t7:IntKind.u8.wrap ((L:Int)%256)=(L:Int)%256:=by rw[IntKind.wrap_u8];omega
    clear hq hbs hpk hB9 hbl hrb hP hL hrow hpb
    obtain⟨x0,x1,x2,x3,x4,x5,x6,x7,x8,x9,x10⟩:=X.out
    obtain⟨⟨u0,u1,u2,u3,u4⟩,-⟩:=OF1.out
    have hal:=(Below.refl V1.heap.size V1).alloc xl (.cells #[.int .u8 p1.k,.int .u8 ((L:Int)/256),.int .u8 ((L:Int)%256)] 5)
    have LT:=xh (zcZ (w:=V1) [p1.k,(L:Int)/256,(L:Int)%256] 5 (fun y hy=>HRB.out y (List.mem_append_left _ hy)) (by simp) (.cells #[.int .u8 p1.k,.int .u8 ((L:Int)/256),.int .u8 ((L:Int)%256)] 5) rfl V1.heap.size rfl 3 rfl)
    have HRa:=xh (zae HR.out hal)
    have HB9a:=xh (zae HB9.out hal)
    have HBVa:=xh (HBV.out.trans (hal.mono HSV1.out))
    have HSV2:Hid (V.heap.size≤(V1.alloc (.cells #[.int .u8 p1.k,.int .u8 ((L:Int)/256),.int .u8 ((L:Int)%256)] 5)).heap.size):=Nat.le_trans HSV1.out hal.size
    clear hal
    go_wp2_with (at_builtin;first|(refine zhN rfl (.tmp 90) (.tmp 106) rfl V.heap.size P [p1.k,(L:Int)/256,(L:Int)%256] HRa.out LT.out (by have:=HLEN.out;simp;omega) HSV2.out ?_;intro v2 w2 ho hb2 hs2 hgr;have HR2:=xh ho;have HBV2:=xh (HBVa.out.trans hb2);have HS2:Hid (V.heap.size≤w2.heap.size):=Nat.le_trans HSV2.out hs2;have HQ9:=xh (zf2 HB9a.out hgr HW.out);clear ho hb2 hs2 hgr)|(refine zfi rfl (.tmp 108) (.tmp 109) rfl V.heap.size (P++[p1.k,(L:Int)/256,(L:Int)%256]) p1.bs HR2.out (zaq HQ9.out HPB.out (by rw[HLL.out];have:=HBL.out;omega)) (by have:=HLEN.out;have:=HLL.out;have:=HBL.out;simp;omega) HS2.out ?_;intro v3 w3 ho hb2 hs2;have HR3:=xh ho;have HBV3:=xh (HBV2.out.trans hb2);clear ho hb2 hs2))
    go_roundw
    case rel=>
     refine⟨k+1,_,by omega,by go_num,rfl,by rw[HST.out,←List.append_assoc];exact HR3.out,fun j hj=>?_,HBV3.out⟩
     by_cases h:j<k
     ·exact HA.out j h
     ·obtain rfl:j=k:=by omega
      rw[HK1.out];exact HPK.out
    case measure=>simp[intOf];omega
  ·obtain rfl:k=ps.length:=by omega
   have hall:AllP ps:=HA.out
   have HALL:=xh hall
   have hpb:=zg3 hall
   have HPB:=xh hpb
   rw[List.take_length]at HR HLEN
   obtain⟨P,hP⟩:∃P,psB ps=P:=⟨_,rfl⟩
   rw[hP]at HR HLEN HPB
   have HPP:Hid (psB ps=P):=hP
   clear hall hpb hP
   obtain⟨uc,uu,rfl⟩:=zap HR.out
   have hln:(P.length:Int)≤4824:=by have:=HLEN.out;omega
   obtain⟨M,hM⟩:∃M:Int,17+(P.length:Int)=M:=⟨_,rfl⟩
   have hw1:IntKind.i64.wrap (17+(P.length:Int))=M:=by rw[hM,IntKind.wrap_i64];omega
   have HM:=xh hM
   have hM0:0≤M∧M≤5000:=by omega
   obtain⟨⟨u0,u1,u2,u3,u4⟩,-⟩:=OF1.out
   by_cases hbig:M>1400
   ·have hbd:decide (M>1400)=true:=decide_eq_true hbig
    go_wp2_with fail
    go_ret2
    refine zbc (fun h=>?_) (HB.out.trans (HBV.out.mono HB.out.size))
    have h9:=h.2.2
    rw[HPP.out]at h9
    have:=HM.out
    omega
   ·have hbd:decide (M>1400)=false:=decide_eq_false hbig
    have HBG:Hid (FrOk fr ep to pe ps):=⟨HN.out,HALL.out,by rw[HPP.out];have:=HM.out;omega⟩
    have t2:M.tdiv 256=M/256:=Int.tdiv_eq_ediv_of_nonneg hM0.1
    have t3:M.tmod 256=M%256:=Int.tmod_eq_emod_of_nonneg hM0.1
    have t4:IntKind.i64.wrap (M/256)=M/256:=by rw[IntKind.wrap_i64];omega
    have t5:IntKind.i64.wrap (M%256)=M%256:=by rw[IntKind.wrap_i64];omega
    have t6:IntKind.u8.wrap (M/256)=M/256:=by rw[IntKind.wrap_u8];omega
    have t7:IntKind.u8.wrap (M%256)=M%256:=by rw[IntKind.wrap_u8];omega
    have HM0:=xh hM0
    clear hM hM0 hln hbig
    go_wp2_with fail
    clear u0 u1 u2 u3 u4
    refine(ziB ep _ HE1.out).mono ?_
    rintro e V2 ⟨r2,rfl,ho2,hb⟩
    replace HR:=xh (zae HR.out hb)
    replace HBV:=xh (HBV.out.trans (hb.mono HSV.out))
    replace OF1:=xh (OF1.out.below hb)
    replace HSV:Hid (V.heap.size≤V2.heap.size):=Nat.le_trans HSV.out hb.size
    have R2:=xh (zaq ho2 (zcW ep 4) (by rw[zan];omega))
    clear hb ho2
    obtain⟨⟨u0,u1,u2,u3,u4⟩,-⟩:=OF1.out
    go_wp2_with fail
    clear u0 u1 u2 u3 u4
    refine(ziB pe _ HE2.out).mono ?_
    rintro e V3 ⟨r3,rfl,ho3,hb⟩
    replace HR:=xh (zae HR.out hb)
    replace R2:=xh (zaa R2.out hb)
    replace HBV:=xh (HBV.out.trans (hb.mono HSV.out))
    replace OF1:=xh (OF1.out.below hb)
    replace HSV:Hid (V.heap.size≤V3.heap.size):=Nat.le_trans HSV.out hb.size
    have R3:=xh (zaq ho3 (zcW pe 4) (by rw[zan];omega))
    clear hb ho3
    obtain⟨a2,c2,rfl⟩:=zcO R2.out
    obtain⟨a3,c3,rfl⟩:=zcO R3.out
    have hal:=(Below.refl V3.heap.size V3).alloc xl (.cells #[.int .u8 84,.int .u8 1,.int .u8 fr,.int .u8 to] 5)
    have L4:=xh (zcZ (w:=V3) [84,1,fr,to] 5 (fun y hy=>by have:=HFR.out;simp only[List.mem_cons,List.not_mem_nil,or_false]at hy;rcases hy with rfl|rfl|rfl|rfl<;>omega) (by simp) (.cells #[.int .u8 84,.int .u8 1,.int .u8 fr,.int .u8 to] 5) rfl V3.heap.size rfl 4 rfl)
    have HRa:=xh (zae HR.out hal)
    replace R2:=xh (zaa R2.out hal)
    replace R3:=xh (zaa R3.out hal)
    have HBVa:=xh (HBV.out.trans (hal.mono HSV.out))
    have OFa:=xh (OF1.out.below hal)
    have hsz:(V3.alloc (.cells #[.int .u8 84,.int .u8 1,.int .u8 fr,.int .u8 to] 5)).heap.size=V3.heap.size+1:=by simp
    clear hal
    have hal:=(Below.refl (V3.alloc (.cells #[.int .u8 84,.int .u8 1,.int .u8 fr,.int .u8 to] 5)).heap.size (V3.alloc (.cells #[.int .u8 84,.int .u8 1,.int .u8 fr,.int .u8 to] 5))).alloc xl (.cells #[.int .u8 (M/256),.int .u8 (M%256),.int .u8 (ps.length:Int)] 5)
    have L3:=xh (zcZ (w:=V3.alloc (.cells #[.int .u8 84,.int .u8 1,.int .u8 fr,.int .u8 to] 5)) [M/256,M%256,(ps.length:Int)] 5 (fun y hy=>by have:=HM0.out;have:=HP8.out;simp only[List.mem_cons,List.not_mem_nil,or_false]at hy;rcases hy with rfl|rfl|rfl<;>omega) (by simp) (.cells #[.int .u8 (M/256),.int .u8 (M%256),.int .u8 (ps.length:Int)] 5) rfl (V3.heap.size+1) hsz.symm 3 rfl)
    replace HRa:=xh (zae HRa.out hal)
    replace R2:=xh (zaa R2.out hal)
    replace R3:=xh (zaa R3.out hal)
    replace L4:=xh (zaa L4.out hal)
    replace HBVa:=xh (HBVa.out.trans (hal.mono (Nat.le_trans HSV.out (by rw[hsz];omega))))
    clear hal
    have hb5:=xh (zfP L4.out R2.out R3.out L3.out (zaq HRa.out HPB.out (by have:=HLEN.out;omega)) 26 (by rw[zan,zan];have:=HLEN.out;simp;omega))
    have q4:∀O,(V3.alloc O).cell? (xQ g0 4)=some (.slice a ps.length c):=fun O=>(OF1.out.below ((Below.refl _ V3).alloc xl O)).1.2.2.2.2
    obtain⟨⟨u0,u1,u2,u3,u4⟩,-⟩:=OF1.out
    have HS9:Hid (((V3.alloc (.cells #[.int .u8 84,.int .u8 1,.int .u8 fr,.int .u8 to] 5)).alloc (.cells #[.int .u8 (M/256),.int .u8 (M%256),.int .u8 (ps.length:Int)] 5)).heap.size=V3.heap.size+2):=by show _=_;simp
    rw[HS9.out]at hb5
    go_wp2_with fail
    clear u0 u1 u2 u3 u4 q4
    refine hb5.out.mono ?_
    rintro e V4 ⟨r5,rfl,ho,hby,hb⟩
    have hbc:=((HBVa.out.alloc (Nat.le_trans HSV.out (by rw[HS9.out];omega)) (.cells #[.slice (some (V3.heap.size,0)) 4 4,.slice a2 (lo ep 4).length c2,.slice a3 (lo pe 4).length c3,.slice (some (V3.heap.size+1,0)) 3 3,.slice uc P.length uu] 26)).trans (hb.mono (Nat.le_trans HSV.out (by simp;omega))))
    have hB0:[84,1,fr,to]++(lo ep 4++(lo pe 4++([M/256,M%256,(ps.length:Int)]++P)))=frB0 fr ep to pe ps:=by
     unfold frB0 zbB
     rw[HPP.out,HM.out]
     simp
    rw[hB0]at ho hby
    have HO:=xh ho
    have HBY:=xh hby
    have HB4:=xh hbc
    have HS4:Hid (V.heap.size≤V4.heap.size):=Nat.le_trans HSV.out (Nat.le_trans (by simp;omega) hb.size)
    clear ho hby hb hbc hB0
    obtain⟨a5,c5,rfl⟩:=zap HO.out
    have RS:=xh (zaq HO.out HBY.out (by rw[zbP,HPP.out];have:=HLEN.out;omega))
    go_wp2_with fail
    refine(zfA _ _ _ RS.out).mono ?_
    rintro e V5 ⟨rfl,hw⟩
    subst hw
    have hsb:=zdM (frB0 fr ep to pe ps)
    obtain⟨Z,hZ⟩:∃Z,sumN (frB0 fr ep to pe ps)=Z:=⟨_,rfl⟩
    rw[hZ]at hsb ⊢
    have HZ:=xh hZ
    have HSB:=xh hsb
    have z2:Z.tdiv 256=Z/256:=Int.tdiv_eq_ediv_of_nonneg hsb.1
    have z3:Z.tmod 256=Z%256:=Int.tmod_eq_emod_of_nonneg hsb.1
    have z4:IntKind.i64.wrap (Z/256)=Z/256:=by rw[IntKind.wrap_i64];omega
    have z5:IntKind.i64.wrap (Z%256)=Z%256:=by rw[IntKind.wrap_i64];omega
    have z6:IntKind.u8.wrap (Z/256)=Z/256:=by rw[IntKind.wrap_u8];omega
    have z7:IntKind.u8.wrap (Z%256)=Z%256:=by rw[IntKind.wrap_u8];omega
    clear hZ hsb t2 t3 t4 t5 t6 t7 hw1 hbd
    have hal:=(Below.refl V4.heap.size V4).alloc xl (.cells #[.int .u8 (Z/256),.int .u8 (Z%256)] 5)
    have LZ:=xh (zcZ (w:=V4) [Z/256,Z%256] 5 (fun y hy=>by have:=HSB.out;simp only[List.mem_cons,List.not_mem_nil,or_false]at hy;rcases hy with rfl|rfl<;>omega) (by simp) (.cells #[.int .u8 (Z/256),.int .u8 (Z%256)] 5) rfl V4.heap.size rfl 2 rfl)
    have HO2:=xh (zas (zae HO.out hal) (show w.heap.size≤_ from Nat.le_trans HB.out.size (Nat.le_trans HSV.out (by simp;omega))))
    have HB5:=xh (HB.out.trans ((HB4.out.trans (hal.mono HS4.out)).mono HB.out.size))
    clear hal
    go_wp2_with (at_builtin;(skip;refine zfi rfl (.tmp 153) (.tmp 160) rfl w.heap.size (frB0 fr ep to pe ps) [Z/256,Z%256] HO2.out LZ.out (by rw[zbP,HPP.out];have:=HLEN.out;simp;omega) HB5.out.size ?_;intro v6 w6 ho hb2 hs2;have HR6:=xh ho;have HB6:=xh (HB5.out.trans hb2);clear ho hb2 hs2))
    go_ret2
    exact zgY HBG.out (own3 (by rw[HZ.out];exact HR6.out)) HB6.out
theorem zg9 (fr ep to pe:Int)(a:Option Addr)(c:Nat)(ps:List Pt)(w:World)(h:Ps w (.slice a ps.length c) ps)(hf:∀i,i<ps.length→zaR (ps.getD i zPt))(hl:ps.length≤1000):Calls Tryz.prog 11 #[.agg (xA fr ep to pe (.slice a ps.length c))] w (RetF w fr ep to pe ps):=by
 by_cases hn:FrHd fr ep to pe ps.length
 ·by_cases m:to<64
  ·exact zfD fr ep to pe a c ps w h hf hl hn m
  ·exact zfr fr ep to pe a c ps w h hf hl hn m
 ·exact zgu fr ep to pe a c ps w h hf hl hn
end Go.Proofs.YtjghebcnmoojmaaGreat
