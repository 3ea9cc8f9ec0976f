/- Acks: Echoes and beacons: Beacons: Which beacons are right: Variables of an ack; The program's small functions: Rows of acks: -/
import Derived.Test.YtjghebcnmoojmaaGreatV06
import Derived.Test.YtjghebcnmoojmaaGreatV07
set_option maxRecDepth 100000
set_option maxHeartbeats 32000000
namespace Go.Proofs.YtjghebcnmoojmaaGreat
open Go.RowKit MX
section
open Go.WideShapes Go.ChangeShapes
def ak (y:Int×Int×Int×Int):List Value:=[xI y.1,xI y.2.1,xI y.2.2.1,xI y.2.2.2]
theorem zpo:(Tryz.prog.info? 120).map (fun i=>(i.zero,i.size,i.bytes))=some (some (.agg #[xI 0,xI 0,xI 0,xI 0]),4,32):=by kernel_rfl
theorem zn4:Tryz.prog.underlying 46=some (.slice 120):=by kernel_rfl
theorem znk:Tryz.prog.underlying 120=some (.struct (Tryz.prog.fieldsOf 120)):=by kernel_rfl
theorem zmU:Tryz.prog.cellsOf 120=4:=by kernel_rfl
theorem znf (y:Int×Int×Int×Int):∀u∈ak y,u.oneCell'=true:=by
 intro u hu
 simp only[ak,List.mem_cons,List.not_mem_nil,or_false]at hu
 rcases hu with rfl|rfl|rfl|rfl<;>rfl
noncomputable def RA:RowT where
 α:=Int×Int×Int×Int
 d:=(0,0,0,0)
 cl:=ak
 K:=4
 T:=120
 SL:=46
 zero:=.agg #[xI 0,xI 0,xI 0,xI 0]
 bytes:=32
 hcl:=fun _=>rfl
 hK:=by decide
 hone:=znf
 hSL:=zn4
 hinfo:=zpo
 hz:=rfl
 hb:=by decide
 hc:=zmU
def As (w:World)(v:Value)(ys:List (Int×Int×Int×Int)):Prop:=Gs RA w v ys
def aflat (ys:List (Int×Int×Int×Int)):List Value:=ys.flatMap ak
theorem As.below {w w':World}{v:Value}{ys:List (Int×Int×Int×Int)}(h:As w v ys)(hb:Below w.heap.size w w'):As w' v ys:=Gs.below (R:=RA) h hb
theorem As.alloc {w:World}{v:Value}{ys:List (Int×Int×Int×Int)}(h:As w v ys)(O:Obj):As (w.alloc O) v ys:=Gs.alloc (R:=RA) h O
theorem As.form {w:World}{v:Value}{ys:List (Int×Int×Int×Int)}(h:As w v ys):∃a c,v=.slice a ys.length c:=Gs.form (R:=RA) h
theorem zpx (w:World):As w xS []:=zmB (R:=RA) w
def Cells4a (w:World)(b o:Nat)(y:Int×Int×Int×Int):Prop:=w.cell? ⟨b,o,none⟩=xJ y.1∧w.cell? ⟨b,o+1,none⟩=xJ y.2.1∧w.cell? ⟨b,o+2,none⟩=xJ y.2.2.1∧w.cell? ⟨b,o+3,none⟩=xJ y.2.2.2
theorem zoE {w:World}{b o:Nat}{y:Int×Int×Int×Int}(h:GC RA w b o y):Cells4a w b o y:=⟨h 0 (by decide),h 1 (by decide),h 2 (by decide),h 3 (by decide)⟩
theorem Cells4a.below {w w':World}{b o:Nat}{y:Int×Int×Int×Int}(h:Cells4a w b o y)(hb:Below w.heap.size w w'):Cells4a w' b o y:=by
 obtain⟨h0,h1,h2,h3⟩:=h
 exact⟨by rw[hb.cell (World.block_lt_of_cell? w _ h0)];exact h0,by rw[hb.cell (World.block_lt_of_cell? w _ h1)];exact h1,by rw[hb.cell (World.block_lt_of_cell? w _ h2)];exact h2,by rw[hb.cell (World.block_lt_of_cell? w _ h3)];exact h3⟩
theorem As.at {w:World}{a:Option Addr}{c:Nat}{ys:List (Int×Int×Int×Int)}(h:As w (.slice a ys.length c) ys){i:Nat}(hi:i<ys.length):∃b off,a=some ⟨b,off,none⟩∧b<w.heap.size∧Cells4a w b (off+i*4) (ys.getD i (0,0,0,0)):=by
 obtain⟨b,off,h1,h2,h3⟩:=Gs.at (R:=RA) h hi
 exact⟨b,off,h1,h2,zoE h3⟩
theorem As.all {w:World}{b off c:Nat}{ys:List (Int×Int×Int×Int)}(h:As w (.slice (some ⟨b,off,none⟩) ys.length c) ys){i:Nat}(hi:i<ys.length):b<w.heap.size∧Cells4a w b (off+i*4) (ys.getD i (0,0,0,0)):=by
 obtain⟨h2,h3⟩:=Gs.all (R:=RA) h hi
 exact⟨h2,zoE h3⟩
theorem zeC {w:World}{base n:Nat}{v:Value}{ys:List (Int×Int×Int×Int)}(h:w.ownsRow base 120 4 v n (aflat ys)):As w v ys∧n=ys.length:=zdu (R:=RA) h
theorem zlJ {ys zs:List (Int×Int×Int×Int)}(hl:ys.length=zs.length)(h:∀i,i<ys.length→ys.getD i (0,0,0,0)=zs.getD i (0,0,0,0)):ys=zs:=zhs (R:=RA) hl h
theorem zhS (w:World)(base:Nat):w.ownsRow base 120 4 xS 0 (aflat []):=zat (R:=RA) w base
def EpOk (n:Int):Prop:=0≤n∧n≤4294967295
instance (n:Int):Decidable (EpOk n):=by unfold EpOk;infer_instance
theorem zam (n:Int)(q:Bool)(hq:q=true↔EpOk n)(w:World):Calls Tryz.prog 25 #[xI n] w fun e w'=>e=.returned (.bool q)∧w=w':=by
 unfold EpOk at hq
 by_cases h1:0≤n
 ·by_cases h2:n≤4294967295
  ·obtain rfl:q=true:=hq.2 ⟨h1,h2⟩
   clear hq
   go_enter Tryz.func25,Tryz.ntmps25
   go_wp2
   go_ret
   exact⟨rfl,rfl⟩
  ·obtain rfl:q=false:=by cases q with
    | false=>rfl
    | true=>exact absurd (hq.1 rfl).2 h2
   clear hq
   go_enter Tryz.func25,Tryz.ntmps25
   go_wp2
   go_ret
   exact⟨rfl,rfl⟩
 ·obtain rfl:q=false:=by cases q with
   | false=>rfl
   | true=>exact absurd (hq.1 rfl).1 h1
  clear hq
  go_enter Tryz.func25,Tryz.ntmps25
  go_wp2
  go_ret
  exact⟨rfl,rfl⟩
def zcr (y:Int×Int×Int×Int):Prop:=(0≤y.1∧y.1<64)∧EpOk y.2.1∧(0≤y.2.2.1∧y.2.2.1≤65535)∧(0≤y.2.2.2∧y.2.2.2≤65535)
instance (y:Int×Int×Int×Int):Decidable (zcr y):=by unfold zcr;infer_instance
theorem zlR (i p n m:Int)(Q:Bool)(hQ:Q=true↔zcr (i,p,n,m))(w:World):
  Calls Tryz.prog 89 #[.agg #[xI i,xI p,xI n,xI m]] w fun e w'=>e=.returned (.bool Q)∧Below w.heap.size w w':=by
 obtain⟨q,hq⟩:∃q:Bool,q=true↔EpOk p:=⟨decide (EpOk p),decide_eq_true_iff⟩
 unfold zcr at hQ
 simp only at hQ
 rw[←hq]at hQ
 have HB:Hid (Below w.heap.size w (w.alloc (.cells #[xI i,xI p,xI n,xI m] 120))):=xr.alloc xl _
 by_cases h0:0≤i
 ·by_cases h1:i<64
  ·cases q with
   | false=>
    obtain rfl:Q=false:=by
     cases Q with
     | false=>rfl
     | true=>have:=hQ.1 rfl;first|(exact absurd this.2.1 (by decide))|omega
    clear hQ
    have HQ:=xh hq
    clear hq
    go_enter Tryz.func89,Tryz.ntmps89
    go_wp2_with (go_at_call 25;refine(zam p false HQ.out _).mono ?_;rintro e w' ⟨rfl,rfl⟩)
    go_ret
    exact⟨rfl,HB.out⟩
   | true=>
    by_cases h3:0≤n
    ·by_cases h4:n≤65535
     ·by_cases h5:0≤m
      ·by_cases h6:m≤65535
       ·obtain rfl:Q=true:=hQ.2 ⟨⟨h0,h1⟩,rfl,⟨h3,h4⟩,h5,h6⟩
        clear hQ
        have HQ:=xh hq
        clear hq
        go_enter Tryz.func89,Tryz.ntmps89
        go_wp2_with (go_at_call 25;refine(zam p true HQ.out _).mono ?_;rintro e w' ⟨rfl,rfl⟩)
        go_ret
        exact⟨rfl,HB.out⟩
       ·obtain rfl:Q=false:=by
         cases Q with
         | false=>rfl
         | true=>have:=hQ.1 rfl;first|(exact absurd this.2.1 (by decide))|omega
        have d6:decide (m≤65535)=false:=decide_eq_false h6
        clear hQ
        have HQ:=xh hq
        clear hq
        go_enter Tryz.func89,Tryz.ntmps89
        go_wp2_with (go_at_call 25;refine(zam p true HQ.out _).mono ?_;rintro e w' ⟨rfl,rfl⟩)
        go_ret
        exact⟨rfl,HB.out⟩
      ·obtain rfl:Q=false:=by
        cases Q with
        | false=>rfl
        | true=>have:=hQ.1 rfl;first|(exact absurd this.2.1 (by decide))|omega
       clear hQ
       have HQ:=xh hq
       clear hq
       go_enter Tryz.func89,Tryz.ntmps89
       go_wp2_with (go_at_call 25;refine(zam p true HQ.out _).mono ?_;rintro e w' ⟨rfl,rfl⟩)
       go_ret
       exact⟨rfl,HB.out⟩
     ·obtain rfl:Q=false:=by
       cases Q with
       | false=>rfl
       | true=>have:=hQ.1 rfl;first|(exact absurd this.2.1 (by decide))|omega
      clear hQ
      have HQ:=xh hq
      clear hq
      go_enter Tryz.func89,Tryz.ntmps89
      go_wp2_with (go_at_call 25;refine(zam p true HQ.out _).mono ?_;rintro e w' ⟨rfl,rfl⟩)
      go_ret
      exact⟨rfl,HB.out⟩
    ·obtain rfl:Q=false:=by
      cases Q with
      | false=>rfl
      | true=>have:=hQ.1 rfl;first|(exact absurd this.2.1 (by decide))|omega
     clear hQ
     have HQ:=xh hq
     clear hq
     go_enter Tryz.func89,Tryz.ntmps89
     go_wp2_with (go_at_call 25;refine(zam p true HQ.out _).mono ?_;rintro e w' ⟨rfl,rfl⟩)
     go_ret
     exact⟨rfl,HB.out⟩
  ·obtain rfl:Q=false:=by
    cases Q with
    | false=>rfl
    | true=>have:=hQ.1 rfl;first|(exact absurd this.2.1 (by decide))|omega
   clear hQ
   have HQ:=xh hq
   clear hq
   go_enter Tryz.func89,Tryz.ntmps89
   go_wp2_with fail
   go_ret
   exact⟨rfl,HB.out⟩
 ·obtain rfl:Q=false:=by
   cases Q with
   | false=>rfl
   | true=>have:=hQ.1 rfl;first|(exact absurd this.2.1 (by decide))|omega
  clear hQ
  have HQ:=xh hq
  clear hq
  go_enter Tryz.func89,Tryz.ntmps89
  go_wp2_with fail
  go_ret
  exact⟨rfl,HB.out⟩
theorem zd7 {P:Program}{w:World}{d:Nat}{xs ys:Array Value}{f:Field}{fs:List Field}{x y:Value}{T:TypeId}{off:Nat}{e:Bool}
  (h:(f.name=="_",f.type,f.offset)=(false,T,off)) (ha:(isAgg T).run P w=.ok false w) (hx:xs[off]? =some x) (hy:ys[off]? =some y) (he:(Op.equalIn d T x y).run P w=.ok e w):
  (Op.eqFields d xs ys (f::fs)).run P w=if e then(Op.eqFields d xs ys fs).run P w else .ok false w:=by
 simp only[Prod.mk.injEq,beq_eq_false_iff_ne]at h
 obtain⟨h1,h2,h3⟩:=h
 have p:∀(zs:Array Value) (z:Value),zs[off]? =some z→(part T zs off).run P w=.ok z w:=by
  intro zs z hz
  simp only[part,Sem.run_bind,ha,Result.andThen_ok,Bool.false_eq_true,if_false,hz,Sem.run_pure]
 simp only[Op.eqFields,h2,h3]
 rw[if_pos h1]
 simp only[Sem.run_bind,p xs x hx,p ys y hy,he,Result.andThen_ok,Sem.run_ite,Sem.run_pure]
 cases e<;>simp
theorem zlT:((Tryz.prog.fieldsOf 120).toList.map fun f=>(f.name=="_",f.type,f.offset))=[(false,3,0),(false,3,1),(false,3,2),(false,3,3)]:=by kernel_rfl
theorem zmj (a b c d a' b' c' d':Int)(w:World):
  (Op.equalIn 10000 120 (.agg #[xI a,xI b,xI c,xI d]) (.agg #[xI a',xI b',xI c',xI d'])).run Tryz.prog w=.ok (a==a'&&(b==b'&&(c==c'&&d==d'))) w:=by
 rw[run_equalIn_agg w 9999 120 _ _ znk (by kernel_rfl)]
 have hf:=zlT
 generalize (Tryz.prog.fieldsOf 120).toList=fs at*
 have a3:(isAgg 3).run Tryz.prog w=.ok false w:=by kernel_rfl
 obtain⟨f0,_,rfl,g0,hf⟩:=List.map_eq_cons_iff.1 hf
 obtain⟨f1,_,rfl,g1,hf⟩:=List.map_eq_cons_iff.1 hf
 obtain⟨f2,_,rfl,g2,hf⟩:=List.map_eq_cons_iff.1 hf
 obtain⟨f3,_,rfl,g3,hf⟩:=List.map_eq_cons_iff.1 hf
 obtain rfl:=List.map_eq_nil_iff.1 hf
 rw[zd7 g0 a3 rfl rfl (run_equalIn_int w 9998 3 .i64 .i64 a a' (by kernel_rfl)),zd7 g1 a3 rfl rfl (run_equalIn_int w 9998 3 .i64 .i64 b b' (by kernel_rfl)),zd7 g2 a3 rfl rfl (run_equalIn_int w 9998 3 .i64 .i64 c c' (by kernel_rfl)),zd7 g3 a3 rfl rfl (run_equalIn_int w 9998 3 .i64 .i64 d d' (by kernel_rfl))]
 simp only[Op.eqFields,Sem.run_pure]
 cases a==a'<;>cases b==b'<;>cases c==c'<;>cases d==d'<;>rfl
theorem zna (op:BinOp)(x y:Operand)(xs ys:Array Value)(w:World):(eqGuard op 120 x y (.agg xs) (.agg ys)).run Tryz.prog w=.ok () w:=
 run_eqGuard_agg w op 120 x y xs ys (by kernel_rfl)
def eqA (a b c d a' b' c' d':Int):Bool:=a==a'&&(b==b'&&(c==c'&&d==d'))
theorem zov {a b c d a' b' c' d':Int}:eqA a b c d a' b' c' d'=true↔(a,b,c,d)=(a',b',c',d'):=by simp[eqA]
theorem zpD (a b c d a' b' c' d':Int)(w:World):(binOp .neq 120 (.agg #[xI a,xI b,xI c,xI d]) (.agg #[xI a',xI b',xI c',xI d'])).run Tryz.prog w=.ok (.bool (!eqA a b c d a' b' c' d')) w:=by
 rw[run_neq_struct,zmj];rfl
end
section
open Go.WideShapes Go.ChangeShapes
def ec (y:Int×Int):List Value:=[xI y.1,xI y.2]
theorem zpv:(Tryz.prog.info? 113).map (fun i=>(i.zero,i.size,i.bytes))=some (some (.agg #[xI 0,xI 0]),2,16):=by kernel_rfl
theorem zmT:Tryz.prog.underlying 40=some (.slice 113):=by kernel_rfl
theorem zkw:Tryz.prog.underlying 113=some (.struct (Tryz.prog.fieldsOf 113)):=by kernel_rfl
theorem zfF:Tryz.prog.cellsOf 113=2:=by kernel_rfl
theorem zmM (y:Int×Int):∀u∈ec y,u.oneCell'=true:=by
 intro u hu
 simp only[ec,List.mem_cons,List.not_mem_nil,or_false]at hu
 rcases hu with rfl|rfl<;>rfl
noncomputable def RE:RowT where
 α:=Int×Int
 d:=(0,0)
 cl:=ec
 K:=2
 T:=113
 SL:=40
 zero:=.agg #[xI 0,xI 0]
 bytes:=16
 hcl:=fun _=>rfl
 hK:=by decide
 hone:=zmM
 hSL:=zmT
 hinfo:=zpv
 hz:=rfl
 hb:=by decide
 hc:=zfF
def Es (w:World)(v:Value)(ys:List (Int×Int)):Prop:=Gs RE w v ys
def zmW (ys:List (Int×Int)):List Value:=ys.flatMap ec
theorem Es.below {w w':World}{v:Value}{ys:List (Int×Int)}(h:Es w v ys)(hb:Below w.heap.size w w'):Es w' v ys:=Gs.below (R:=RE) h hb
theorem Es.alloc {w:World}{v:Value}{ys:List (Int×Int)}(h:Es w v ys)(O:Obj):Es (w.alloc O) v ys:=Gs.alloc (R:=RE) h O
theorem Es.form {w:World}{v:Value}{ys:List (Int×Int)}(h:Es w v ys):∃a c,v=.slice a ys.length c:=Gs.form (R:=RE) h
theorem zoA {w:World}{b o:Nat}{y:Int×Int}(h:GC RE w b o y):w.cell? ⟨b,o,none⟩=xJ y.1∧w.cell? ⟨b,o+1,none⟩=xJ y.2:=⟨h 0 (by decide),h 1 (by decide)⟩
theorem Es.at {w:World}{a:Option Addr}{c:Nat}{ys:List (Int×Int)}(h:Es w (.slice a ys.length c) ys){i:Nat}(hi:i<ys.length):∃b off,a=some ⟨b,off,none⟩∧b<w.heap.size∧w.cell? ⟨b,off+i*2,none⟩=some (.int .i64 (ys.getD i (0,0)).1)∧w.cell? ⟨b,off+i*2+1,none⟩=some (.int .i64 (ys.getD i (0,0)).2):=by
 obtain⟨b,off,h1,h2,h3⟩:=Gs.at (R:=RE) h hi
 exact⟨b,off,h1,h2,zoA h3⟩
theorem Es.all {w:World}{b off c:Nat}{ys:List (Int×Int)}(h:Es w (.slice (some ⟨b,off,none⟩) ys.length c) ys){i:Nat}(hi:i<ys.length):b<w.heap.size∧w.cell? ⟨b,off+i*2,none⟩=some (.int .i64 (ys.getD i (0,0)).1)∧w.cell? ⟨b,off+i*2+1,none⟩=some (.int .i64 (ys.getD i (0,0)).2):=by
 obtain⟨h2,h3⟩:=Gs.all (R:=RE) h hi
 exact⟨h2,zoA h3⟩
theorem zeF {w:World}{base n:Nat}{v:Value}{ys:List (Int×Int)}(h:w.ownsRow base 113 2 v n (zmW ys)):Es w v ys∧n=ys.length:=zdu (R:=RE) h
theorem zl0 {ys zs:List (Int×Int)}(hl:ys.length=zs.length)(h:∀i,i<ys.length→ys.getD i (0,0)=zs.getD i (0,0)):ys=zs:=zhs (R:=RE) hl h
theorem zdy (w:World)(base:Nat):w.ownsRow base 113 2 xS 0 (zmW []):=zat (R:=RE) w base
instance (n:Int):Decidable (EpOk n):=by unfold EpOk;infer_instance
end
theorem zhQ {P:Program}{w:World}{d:Nat}{xs ys:Array Value}{f:Field}{fs:List Field}{x y:Value}{T:TypeId}{off:Nat}{e:Bool}
  (h:(f.name=="_",f.type,f.offset)=(false,T,off)) (ha:(isAgg T).run P w=.ok false w) (hx:xs[off]? =some x) (hy:ys[off]? =some y) (he:(Op.equalIn d T x y).run P w=.ok e w):
  (Op.eqFields d xs ys (f::fs)).run P w=if e then(Op.eqFields d xs ys fs).run P w else .ok false w:=by
 simp only[Prod.mk.injEq,beq_eq_false_iff_ne]at h
 obtain⟨h1,h2,h3⟩:=h
 have p:∀(zs:Array Value) (z:Value),zs[off]? =some z→(part T zs off).run P w=.ok z w:=by
  intro zs z hz
  simp only[part,Sem.run_bind,ha,Result.andThen_ok,Bool.false_eq_true,if_false,hz,Sem.run_pure]
 simp only[Op.eqFields,h2,h3]
 rw[if_pos h1]
 simp only[Sem.run_bind,p xs x hx,p ys y hy,he,Result.andThen_ok,Sem.run_ite,Sem.run_pure]
 cases e<;>simp
theorem zlc:((Tryz.prog.fieldsOf 113).toList.map fun f=>(f.name=="_",f.type,f.offset))=[(false,3,0),(false,3,1)]:=by kernel_rfl
theorem zmc (a b a' b':Int)(w:World):
  (Op.equalIn 10000 113 (.agg #[xI a,xI b]) (.agg #[xI a',xI b'])).run Tryz.prog w=.ok (a==a'&&b==b') w:=by
 rw[run_equalIn_agg w 9999 113 _ _ zkw (by kernel_rfl)]
 have hf:=zlc
 generalize (Tryz.prog.fieldsOf 113).toList=fs at*
 have a3:(isAgg 3).run Tryz.prog w=.ok false w:=by kernel_rfl
 obtain⟨f0,_,rfl,g0,hf⟩:=List.map_eq_cons_iff.1 hf
 obtain⟨f1,_,rfl,g1,hf⟩:=List.map_eq_cons_iff.1 hf
 obtain rfl:=List.map_eq_nil_iff.1 hf
 rw[zhQ g0 a3 rfl rfl (run_equalIn_int w 9998 3 .i64 .i64 a a' (by kernel_rfl)),zhQ g1 a3 rfl rfl (run_equalIn_int w 9998 3 .i64 .i64 b b' (by kernel_rfl))]
 simp only[Op.eqFields,Sem.run_pure]
 cases a==a'<;>cases b==b'<;>rfl
theorem znF (op:BinOp)(x y:Operand)(xs ys:Array Value)(w:World):(eqGuard op 113 x y (.agg xs) (.agg ys)).run Tryz.prog w=.ok () w:=
 run_eqGuard_agg w op 113 x y xs ys (by kernel_rfl)
def eqE (a b a' b':Int):Bool:=a==a'&&b==b'
theorem zmX {a b a' b':Int}:eqE a b a' b'=true↔(a,b)=(a',b'):=by simp[eqE]
theorem zp0 (a b a' b':Int)(w:World):(binOp .neq 113 (.agg #[xI a,xI b]) (.agg #[xI a',xI b'])).run Tryz.prog w=.ok (.bool (!eqE a b a' b')) w:=by
 rw[run_neq_struct,zmc];rfl
theorem ze2 (M M':Int)(v u:Value)(ys zs:List (Int×Int))(w:World)(hy:Es w v ys)(hz:Es w u zs)(h:(M !=M')=true∨(M !=M')=false∧((ys.length:Int) !=(zs.length:Int))=true):
  Calls Tryz.prog 43 #[.agg #[xI M,v],.agg #[xI M',u]] w fun e w'=>e=.returned (.bool false)∧Below w.heap.size w w':=by
 obtain⟨a,c,rfl⟩:=hy.form
 obtain⟨a',c',rfl⟩:=hz.form
 clear hy hz
 rcases h with h|⟨h,h2⟩
 ·go_enter Tryz.func43,Tryz.ntmps43
  go_wp2_with fail
  go_ret
  exact⟨rfl,(xr.alloc xl _).alloc (by simp) _⟩
 ·go_enter Tryz.func43,Tryz.ntmps43
  go_wp2_with fail
  go_ret
  exact⟨rfl,(xr.alloc xl _).alloc (by simp) _⟩
theorem ziD (M:Int)(v u:Value)(ys zs:List (Int×Int))(w:World)(hy:Es w v ys)(hz:Es w u zs)(hl:ys.length≤3000)(hne:ys.length=zs.length):
  Calls Tryz.prog 43 #[.agg #[xI M,v],.agg #[xI M,u]] w fun e w'=>(∃b:Bool,e=.returned (.bool b)∧(b=true↔ys=zs))∧Below w.heap.size w w':=by
 obtain⟨a,c,rfl⟩:=hy.form
 obtain⟨a',c',rfl⟩:=hz.form
 have hM:(M !=M)=false:=by simp
 have hL:((ys.length:Int) !=(zs.length:Int))=false:=by rw[hne];simp
 have k0:((w.alloc (.cells #[xI M,.slice a ys.length c] 42)).alloc (.cells #[xI M,.slice a' zs.length c'] 42)).cell? (w.heap.size,1)=some (.slice a ys.length c):=by simp
 have k1:((w.alloc (.cells #[xI M,.slice a ys.length c] 42)).alloc (.cells #[xI M,.slice a' zs.length c'] 42)).cell? (w.heap.size+1,1)=some (.slice a' zs.length c'):=by simp
 have HY:=xh ((hy.alloc (.cells #[xI M,.slice a ys.length c] 42)).alloc (.cells #[xI M,.slice a' zs.length c'] 42))
 have HZ:=xh ((hz.alloc (.cells #[xI M,.slice a ys.length c] 42)).alloc (.cells #[xI M,.slice a' zs.length c'] 42))
 have HB:Hid (Below w.heap.size w ((w.alloc (.cells #[xI M,.slice a ys.length c] 42)).alloc (.cells #[xI M,.slice a' zs.length c'] 42))):=(xr.alloc xl _).alloc (by simp) _
 have HN:=xh hne
 clear hy hz hne
 go_enter Tryz.func43,Tryz.ntmps43
 go_wp2_with fail
 obtain⟨V,hV⟩:∃V,(w.alloc (.cells #[xI M,.slice a ys.length c] 42)).alloc (.cells #[xI M,.slice a' zs.length c'] 42)=V:=⟨_,rfl⟩
 rw[hV]at k0 k1 HY HZ HB
 simp only[hV]
 clear hV
 go_loopw [5] (fun i wr=>∃k:Nat,k≤ys.length∧i=xI k∧(∀i,i<k→ys.getD i (0,0)=zs.getD i (0,0))∧Below V.heap.size V wr) (fun i _=>ys.length-(intOf i).toNat)
 case atStart=>exact⟨0,Nat.zero_le _,rfl,fun i h=>absurd h (Nat.not_lt_zero _),Below.refl _ _⟩
 case round=>
  obtain⟨k,hk,rfl,hsame,hbel⟩:=hrel
  have HS:=xh hsame
  have HW:=xh hbel
  have c0:wr.cell? (w.heap.size,1)=some (.slice a ys.length c):=by rw[hbel.cell (World.block_lt_of_cell? V _ k0)];exact k0
  have c1:wr.cell? (w.heap.size+1,1)=some (.slice a' zs.length c'):=by rw[hbel.cell (World.block_lt_of_cell? V _ k1)];exact k1
  clear hsame hbel
  by_cases hlt:k<ys.length
  ·obtain⟨b,off,rfl,hB,p0,p1⟩:=(HY.out.below HW.out).at hlt
   have hlt2:k<zs.length:=by have:=HN.out;omega
   obtain⟨b2,off2,rfl,hB2,q0,q1⟩:=(HZ.out.below HW.out).at hlt2
   obtain⟨⟨y1,y2⟩,hyk⟩:∃y,ys.getD k (0,0)=y:=⟨_,rfl⟩
   obtain⟨⟨z1,z2⟩,hzk⟩:∃z,zs.getD k (0,0)=z:=⟨_,rfl⟩
   rw[hyk]at p0 p1
   rw[hzk]at q0 q1
   simp only at p0 p1 q0 q1
   have HK:=xh hyk
   have HK2:=xh hzk
   clear hyk hzk
   have E1:=znF
   have E2:=zp0
   obtain⟨q,hq⟩:∃q,eqE y1 y2 z1 z2=q:=⟨_,rfl⟩
   have HQ:Hid (q=true↔(y1,y2)=(z1,z2)):=by rw[←hq];exact zmX
   go_wp2_with fail
   go_region
   cases q with
   | true=>
    go_wp2_with fail
    go_roundw
    case rel=>
     refine⟨k+1,by omega,by go_num,?_,HW.out.drew⟩
     intro j hj
     by_cases h:j<k
     ·exact HS.out j h
     ·obtain rfl:j=k:=by omega
      rw[HK.out,HK2.out];exact HQ.out.1 rfl
    case measure=>simp[intOf];omega
   | false=>
    go_wp2_with fail
    go_ret
    refine⟨⟨false,rfl,⟨(fun h=>by cases h),fun h=>?_⟩⟩,(HB.out.trans (HW.out.mono HB.out.size)).drew⟩
    subst h
    exact absurd (HQ.out.2 (HK.out.symm.trans HK2.out)) (by decide)
  ·obtain rfl:k=ys.length:=by omega
   go_wp2_with fail
   go_ret
   exact⟨⟨true,rfl,⟨fun _=>zl0 HN.out HS.out,fun _=>rfl⟩⟩,HB.out.trans (HW.out.mono HB.out.size)⟩
theorem zcc (M M':Int)(v u:Value)(ys zs:List (Int×Int))(w:World)(hy:Es w v ys)(hz:Es w u zs)(hl:ys.length≤3000):
  Calls Tryz.prog 43 #[.agg #[xI M,v],.agg #[xI M',u]] w fun e w'=>(∃b:Bool,e=.returned (.bool b)∧(b=true↔M=M'∧ys=zs))∧Below w.heap.size w w':=by
 by_cases hM:M=M'
 ·subst hM
  by_cases hn:ys.length=zs.length
  ·exact(ziD M v u ys zs w hy hz hl hn).mono fun e w' ⟨⟨b,h1,h2⟩,h3⟩=>⟨⟨b,h1,by rw[h2];simp⟩,h3⟩
  ·exact(ze2 M M v u ys zs w hy hz (.inr ⟨by simp,by simpa using fun h=>hn (by omega)⟩)).mono fun e w' ⟨h1,h2⟩=>⟨⟨false,h1,⟨(fun h=>by cases h),fun h=>absurd (congrArg List.length h.2) hn⟩⟩,h2⟩
 ·exact(ze2 M M' v u ys zs w hy hz (.inl (by simpa using hM))).mono fun e w' ⟨h1,h2⟩=>⟨⟨false,h1,⟨(fun h=>by cases h),fun h=>absurd h.1 hM⟩⟩,h2⟩
def OwnB2 (w:World)(b:Nat)(M:Int)(v:Value):Prop:=(w.cell? (xQ b 0)=xJ M∧w.cell? (xQ b 1)=some v)∧∀j,w.frozen? ⟨b,j,none⟩=false
theorem zbt (w:World)(M:Int)(v:Value)(T:TypeId)(g:Nat)(hg:g=w.heap.size):OwnB2 (w.alloc (.cells #[xI M,v] T)) g M v:=by
 subst hg
 exact⟨⟨by simp,by simp⟩,fun j=>by simp⟩
theorem OwnB2.lt {w:World}{b:Nat}{M:Int}{v:Value}(h:OwnB2 w b M v):b<w.heap.size:=World.block_lt_of_cell? w _ h.1.1
theorem OwnB2.below {w w':World}{b:Nat}{M:Int}{v:Value}(h:OwnB2 w b M v)(hb:Below w.heap.size w w'):OwnB2 w' b M v:=
 ⟨⟨(hb.cell (p:=xQ b 0) h.lt).trans h.1.1,(hb.cell (p:=xQ b 1) h.lt).trans h.1.2⟩,fun j=>(hb.frozen (p:=⟨b,j,none⟩) h.lt).trans (h.2 j)⟩
theorem OwnB2.low {w w':World}{b S:Nat}{M:Int}{v:Value}(h:OwnB2 w b M v)(hb:b<S)(hB:Below S w w'):OwnB2 w' b M v:=
 ⟨⟨(hB.cell (p:=xQ b 0) hb).trans h.1.1,(hB.cell (p:=xQ b 1) hb).trans h.1.2⟩,fun j=>(hB.frozen (p:=⟨b,j,none⟩) hb).trans (h.2 j)⟩
theorem OwnB2.set1 {w:World}{b:Nat}{M:Int}{v:Value}(h:OwnB2 w b M v)(v':Value):OwnB2 (w.setCell (xQ b 1) v') b M v':=by
 obtain⟨⟨h0,h1⟩,hf⟩:=h
 refine⟨⟨?_,?_⟩,fun j=>?_⟩<;>simp[go_sem,hf,h0,h1]
theorem zbi {w:World}{b S size n:Nat}{e:TypeId}{v u:Value}{xs:List Value}(h:w.ownsRow S e size v n xs)(hb:b<S)(j:Nat):(w.setCell ⟨b,j,none⟩ u).ownsRow S e size v n xs:=by
 refine⟨h.1,?_⟩
 rcases h.2 with h2|⟨g,cap,cur,rfl,h3,hg,rest⟩
 ·exact .inl h2
 ·exact .inr ⟨g,cap,cur,rfl,h3,(Below.heap_setCell w ⟨b,j,none⟩ u g (by show g≠b;omega)).trans hg,rest⟩
def EcAt (ys:List (Int×Int))(i:Nat):Prop:=(0≤(ys.getD i (0,0)).1∧(ys.getD i (0,0)).1<64)∧(0<i→(ys.getD (i-1) (0,0)).1<(ys.getD i (0,0)).1)∧EpOk (ys.getD i (0,0)).2
instance (ys:List (Int×Int))(i:Nat):Decidable (EcAt ys i):=by unfold EcAt;infer_instance
def BeOk (M:Int)(ys:List (Int×Int)):Prop:=(∀i,i<ys.length→EcAt ys i)∧EpOk M
instance (M:Int)(ys:List (Int×Int)):Decidable (BeOk M ys):=by unfold BeOk;infer_instance
theorem zdc (M:Int)(v:Value)(ys:List (Int×Int))(Q:Bool)(hQ:Q=true↔BeOk M ys)(w:World)(hy:Es w v ys)(hl:ys.length≤3000):
  Calls Tryz.prog 67 #[.agg #[xI M,v]] w fun e w'=>e=.returned (.bool Q)∧Below w.heap.size w w':=by
 obtain⟨a,c,rfl⟩:=hy.form
 have HQ:=xh hQ
 have k0:=xh (zbt w M (.slice a ys.length c) 42 w.heap.size rfl)
 have HY:=xh (hy.alloc (.cells #[xI M,.slice a ys.length c] 42))
 have HB:Hid (Below w.heap.size w (w.alloc (.cells #[xI M,.slice a ys.length c] 42))):=xr.alloc xl _
 clear hy hQ
 go_enter Tryz.func67,Tryz.ntmps67
 go_wp2_with fail
 obtain⟨V,hV⟩:∃V,w.alloc (.cells #[xI M,.slice a ys.length c] 42)=V:=⟨_,rfl⟩
 rw[hV]at k0 HY HB
 simp only[hV]
 clear hV
 go_loopw [3,4] (fun i _ wr=>∃k:Nat,k≤ys.length∧i=xI k∧(∀i,i<k→EcAt ys i)∧Below V.heap.size V wr) (fun i _ _=>ys.length-(intOf i).toNat)
 case atStart=>exact⟨0,Nat.zero_le _,rfl,fun i h=>absurd h (Nat.not_lt_zero _),Below.refl _ _⟩
 case round=>
  obtain⟨k,hk,rfl,hok,hbel⟩:=hrel
  have HO:=xh hok
  have HW:=xh hbel
  clear hok hbel
  have OX:=xh (k0.out.below HW.out)
  obtain⟨c0,c1⟩:=OX.out.1
  by_cases hlt:k<ys.length
  ·obtain⟨b,off,rfl,hB,p0,p1⟩:=(HY.out.below HW.out).at hlt
   obtain⟨⟨y1,y2⟩,hyk⟩:∃y,ys.getD k (0,0)=y:=⟨_,rfl⟩
   rw[hyk]at p0 p1
   simp only at p0 p1
   have HK:=xh hyk
   clear hyk
   go_wp2_with fail
   obtain⟨V1,hV1⟩:∃V1,wr.alloc (.cells #[xI y1,xI y2] 113)=V1:=⟨_,rfl⟩
   have hb1:Below wr.heap.size wr (wr.alloc (.cells #[xI y1,xI y2] 113)):=(Below.refl _ wr).alloc xl _
   have d0:(wr.alloc (.cells #[xI y1,xI y2] 113)).cell? (wr.heap.size,0)=xJ y1:=by simp
   have d1:(wr.alloc (.cells #[xI y1,xI y2] 113)).cell? (wr.heap.size,1)=xJ y2:=by simp
   have OX1:=xh (OX.out.below hb1)
   have YV1:=xh ((HY.out.below HW.out).below hb1)
   replace HW:=xh (HW.out.trans (hb1.mono HW.out.size))
   rw[hV1]at d0 d1 OX1 YV1 HW
   simp only[hV1]
   clear hV1 hb1 p0 p1 c0 c1
   have fin:¬EcAt ys k→Hid (Q=false):=fun h=>by
    cases hq:Q with
    | false=>rfl
    | true=>exact absurd ((HQ.out.1 hq).1 k hlt) h
   have hk0:(0:Int)≤(k:Int)-1↔0<k:=by omega
   by_cases g1:y1<0
   ·have F:=fin (fun h=>by have:=h.1.1;rw[HK.out]at this;simp only at this;omega)
    clear fin hk0
    have kc:∀w',Below V1.heap.size V1 w'→w'.cell? (wr.heap.size,0)=xJ y1:=fun w' h=>by rw[h.cell (World.block_lt_of_cell? V1 _ d0)];exact d0
    refine zaf (C:=fun w'=>Below V1.heap.size V1 w') (X:=fun w w'=>Below w.heap.size w w') (n:=50) (by kernel_rfl) (by kernel_rfl) rfl (fun w=>Below.refl _ w) xr.drew ?_
    refine wA 4 ?_
    refine wC 17 kc ?_
    refine wD 18 g1 ?_
    refine wA 19 ?_
    refine wK ?_
    refine wK ?_
    refine wK ?_
    refine wB 20 23 ?_
    refine wA 24 ?_
    refine wK ?_
    refine wK ?_
    refine wK ?_
    refine wU ?_
    refine wU ?_
    refine wU ?_
    refine wU ?_
    refine wU ?_
    refine wU ?_
    refine wU ?_
    refine wU ?_
    refine wU ?_
    refine wU ?_
    refine wK ?_
    refine wB 25 39 ?_
    refine wA 40 ?_
    refine wK ?_
    refine wK ?_
    refine wK ?_
    refine wK ?_
    refine wB 41 45 ?_
    intro A V5 hC hn hd hf
    have y0:=yA (hf 0)
    have y1:=yA (hf 1)
    have y2:=yA (hf 2)
    have y3:=yA (hf 3)
    have y4:=yA (hf 4)
    have y5:=yA (hf 5)
    have y6:=yA (hf 6)
    have y7:=yA (hf 7)
    have y8:=yA (hf 8)
    have y9:=yA (hf 9)
    have y10:=yA (hf 10)
    have y11:=yA (hf 11)
    have y12:=yA (hf 12)
    have y13:=yA (hf 13)
    have y14:=yA (hf 14)
    have y15:=yA (hf 15)
    have y16:=yA (hf 16)
    have y17:=yB (hf 17)
    have y18:=yB (hf 18)
    have y19:=yB (hf 19)
    have y20:=yB (hf 20)
    have y21:=yB (hf 21)
    have y22:=yB (hf 22)
    have y23:=yB (hf 23)
    have y24:=yB (hf 24)
    have y25:=yB (hf 25)
    have y26:=yB (hf 26)
    have y27:=yB (hf 27)
    have y28:=yB (hf 28)
    have y29:=yB (hf 29)
    have y30:=yB (hf 30)
    have y31:=yB (hf 31)
    have y32:=yB (hf 32)
    have y33:=yB (hf 33)
    have y34:=yB (hf 34)
    have y35:=yB (hf 35)
    have y36:=yB (hf 36)
    have y37:=yB (hf 37)
    have y38:=yB (hf 38)
    have y39:=yB (hf 39)
    have y40:=yB (hf 40)
    have y41:=yB (hf 41)
    have y42:=yB (hf 42)
    have y43:=yB (hf 43)
    have y44:=yB (hf 44)
    have y45:=yB (hf 45)
    have y46:=yB (hf 46)
    have y47:=yA (hf 47)
    have y48:=yA (hf 48)
    have y49:=yA (hf 49)
    clear hf
    have hA:=zaL hn
    rw[show List.range 50=[0,1,2,3,4,5,6,7,8,9,10,11,12,13,14,15,16,17,18,19,20,21,22,23,24,25,26,27,28,29,30,31,32,33,34,35,36,37,38,39,40,41,42,43,44,45,46,47,48,49]from rfl,hd]at hA
    simp only[List.map_cons,List.map_nil,y0,y1,y2,y3,y4,y5,y6,y7,y8,y9,y10,y11,y12,y13,y14,y15,y16,y17,y18,y19,y20,y21,y22,y23,y24,y25,y26,y27,y28,y29,y30,y31,y32,y33,y34,y35,y36,y37,y38,y39,y40,y41,y42,y43,y44,y45,y46,y47,y48,y49]at hA
    clear y0 y1 y2 y3 y4 y5 y6 y7 y8 y9 y10 y11 y12 y13 y14 y15 y16 y17 y18 y19 y20 y21 y22 y23 y24 y25 y26 y27 y28 y29 y30 y31 y32 y33 y34 y35 y36 y37 y38 y39 y40 y41 y42 y43 y44 y45 y46 y47 y48 y49
    clear hn hd
    subst hA
    go_wp2_with fail
    go_ret
    exact⟨by rw[F.out];rfl,HB.out.trans ((HW.out.trans (hC.mono HW.out.size)).mono HB.out.size)⟩
   ·by_cases g2:64≤y1
    ·have F:=fin (fun h=>by have:=h.1.2;rw[HK.out]at this;simp only at this;omega)
     clear fin hk0
     have kc:∀w',Below V1.heap.size V1 w'→w'.cell? (wr.heap.size,0)=xJ y1:=fun w' h=>by rw[h.cell (World.block_lt_of_cell? V1 _ d0)];exact d0
     refine zaf (C:=fun w'=>Below V1.heap.size V1 w') (X:=fun w w'=>Below w.heap.size w w') (n:=50) (by kernel_rfl) (by kernel_rfl) rfl (fun w=>Below.refl _ w) xr.drew ?_
     refine wA 4 ?_
     refine wC 17 kc ?_
     refine wD 18 g1 ?_
     refine wA 19 ?_
     refine wA 4 ?_
     refine wC 21 kc ?_
     refine wD 22 g2 ?_
     refine wB 20 23 ?_
     refine wA 24 ?_
     refine wK ?_
     refine wK ?_
     refine wK ?_
     refine wU ?_
     refine wU ?_
     refine wU ?_
     refine wU ?_
     refine wU ?_
     refine wU ?_
     refine wU ?_
     refine wU ?_
     refine wU ?_
     refine wU ?_
     refine wK ?_
     refine wB 25 39 ?_
     refine wA 40 ?_
     refine wK ?_
     refine wK ?_
     refine wK ?_
     refine wK ?_
     refine wB 41 45 ?_
     intro A V5 hC hn hd hf
     have y0:=yA (hf 0)
     have y1:=yA (hf 1)
     have y2:=yA (hf 2)
     have y3:=yA (hf 3)
     have y4:=yA (hf 4)
     have y5:=yA (hf 5)
     have y6:=yA (hf 6)
     have y7:=yA (hf 7)
     have y8:=yA (hf 8)
     have y9:=yA (hf 9)
     have y10:=yA (hf 10)
     have y11:=yA (hf 11)
     have y12:=yA (hf 12)
     have y13:=yA (hf 13)
     have y14:=yA (hf 14)
     have y15:=yA (hf 15)
     have y16:=yA (hf 16)
     have y17:=yB (hf 17)
     have y18:=yB (hf 18)
     have y19:=yB (hf 19)
     have y20:=yB (hf 20)
     have y21:=yB (hf 21)
     have y22:=yB (hf 22)
     have y23:=yB (hf 23)
     have y24:=yB (hf 24)
     have y25:=yB (hf 25)
     have y26:=yB (hf 26)
     have y27:=yB (hf 27)
     have y28:=yB (hf 28)
     have y29:=yB (hf 29)
     have y30:=yB (hf 30)
     have y31:=yB (hf 31)
     have y32:=yB (hf 32)
     have y33:=yB (hf 33)
     have y34:=yB (hf 34)
     have y35:=yB (hf 35)
     have y36:=yB (hf 36)
     have y37:=yB (hf 37)
     have y38:=yB (hf 38)
     have y39:=yB (hf 39)
     have y40:=yB (hf 40)
     have y41:=yB (hf 41)
     have y42:=yB (hf 42)
     have y43:=yB (hf 43)
     have y44:=yB (hf 44)
     have y45:=yB (hf 45)
     have y46:=yB (hf 46)
     have y47:=yA (hf 47)
     have y48:=yA (hf 48)
     have y49:=yA (hf 49)
     clear hf
     have hA:=zaL hn
     rw[show List.range 50=[0,1,2,3,4,5,6,7,8,9,10,11,12,13,14,15,16,17,18,19,20,21,22,23,24,25,26,27,28,29,30,31,32,33,34,35,36,37,38,39,40,41,42,43,44,45,46,47,48,49]from rfl,hd]at hA
     simp only[List.map_cons,List.map_nil,y0,y1,y2,y3,y4,y5,y6,y7,y8,y9,y10,y11,y12,y13,y14,y15,y16,y17,y18,y19,y20,y21,y22,y23,y24,y25,y26,y27,y28,y29,y30,y31,y32,y33,y34,y35,y36,y37,y38,y39,y40,y41,y42,y43,y44,y45,y46,y47,y48,y49]at hA
     clear y0 y1 y2 y3 y4 y5 y6 y7 y8 y9 y10 y11 y12 y13 y14 y15 y16 y17 y18 y19 y20 y21 y22 y23 y24 y25 y26 y27 y28 y29 y30 y31 y32 y33 y34 y35 y36 y37 y38 y39 y40 y41 y42 y43 y44 y45 y46 y47 y48 y49
     clear hn hd
     subst hA
     go_wp2_with fail
     go_ret
     exact⟨by rw[F.out];rfl,HB.out.trans ((HW.out.trans (hC.mono HW.out.size)).mono HB.out.size)⟩
    ·obtain⟨q,hq⟩:∃q:Bool,q=true↔EpOk y2:=⟨decide (EpOk y2),decide_eq_true_iff⟩
     have cE:=fun w=>zam y2 q hq w
     have HE:=xh hq
     clear hq
     by_cases g3:0<k
     ·have hkm:k-1<ys.length:=by omega
      obtain⟨hB9,r0,-⟩:=YV1.out.all hkm
      obtain⟨⟨z1,z2⟩,hzk⟩:∃z,ys.getD (k-1) (0,0)=z:=⟨_,rfl⟩
      rw[hzk]at r0
      simp only at r0
      have HZ:=xh hzk
      clear hzk
      have hk1:(1:Int)≤(k:Int):=by omega
      have hk2:(k:Int)-1<(ys.length:Int):=by omega
      have hkn:((k:Int)-1).toNat=k-1:=by omega
      have hkw:IntKind.i64.wrap ((k:Int)-1)=(k:Int)-1:=by rw[IntKind.wrap_i64];omega
      have kc:∀w',Below V1.heap.size V1 w'→w'.cell? (wr.heap.size,0)=xJ y1∧w'.cell? (wr.heap.size,1)=xJ y2∧w'.cell? (w.heap.size,1)=some (.slice (some ⟨b,off,none⟩) ys.length c)∧w'.cell? ⟨b,off+(k-1)*2,none⟩=xJ z1:=fun w' h=>
       ⟨by rw[h.cell (World.block_lt_of_cell? V1 _ d0)];exact d0,by rw[h.cell (World.block_lt_of_cell? V1 _ d1)];exact d1,(OX1.out.below h).1.2,by rw[h.cell (World.block_lt_of_cell? V1 _ r0)];exact r0⟩
      by_cases g4:y1≤z1
      ·have F:=fin (fun h=>by have h2:=h.2.1 g3;rw[HK.out,HZ.out]at h2;simp only at h2;omega)
       clear fin hk0
       refine zaf (C:=fun w'=>Below V1.heap.size V1 w') (X:=fun w w'=>Below w.heap.size w w') (n:=50) (by kernel_rfl) (by kernel_rfl) rfl (fun w=>Below.refl _ w) xr.drew ?_
       refine wA 4 ?_
       refine wC 17 kc ?_
       refine wD 18 g1 ?_
       refine wA 19 ?_
       refine wA 4 ?_
       refine wC 21 kc ?_
       refine wD 22 g2 ?_
       refine wB 20 23 ?_
       refine wA 24 ?_
       refine wA 3 ?_
       refine wD 26 g3 ?_
       refine wA 27 ?_
       refine wA 1 ?_
       refine wC 29 kc ?_
       refine wA 3 ?_
       refine wA 31 ?_
       refine w_is (fun w=>Below.refl _ w) _ (.inr ⟨11,28,true,rfl,rfl,zaI rfl⟩) (fun ρ w hC hc hfn hf=>by have e30:ρ (.tmp 30)=_:=hf 30 (by decide);have e32:ρ (.tmp 32)=_:=hf 32 (by decide);(conv=>lhs;simp[execOp,go_sem,hc,e30,e32,hkw,hk1,hk2,hkn])) ?_
       refine wA 33 ?_
       refine wC 34 kc ?_
       refine wA 4 ?_
       refine wC 36 kc ?_
       refine wE 35 37 g4 ?_
       refine wB 28 38 ?_
       refine wB 25 39 ?_
       refine wA 40 ?_
       refine wK ?_
       refine wK ?_
       refine wK ?_
       refine wK ?_
       refine wB 41 45 ?_
       intro A V5 hC hn hd hf
       have y0:=yA (hf 0)
       have y1:=yA (hf 1)
       have y2:=yA (hf 2)
       have y3:=yA (hf 3)
       have y4:=yA (hf 4)
       have y5:=yA (hf 5)
       have y6:=yA (hf 6)
       have y7:=yA (hf 7)
       have y8:=yA (hf 8)
       have y9:=yA (hf 9)
       have y10:=yA (hf 10)
       have y11:=yA (hf 11)
       have y12:=yA (hf 12)
       have y13:=yA (hf 13)
       have y14:=yA (hf 14)
       have y15:=yA (hf 15)
       have y16:=yA (hf 16)
       have y17:=yB (hf 17)
       have y18:=yB (hf 18)
       have y19:=yB (hf 19)
       have y20:=yB (hf 20)
       have y21:=yB (hf 21)
       have y22:=yB (hf 22)
       have y23:=yB (hf 23)
       have y24:=yB (hf 24)
       have y25:=yB (hf 25)
       have y26:=yB (hf 26)
       have y27:=yB (hf 27)
       have y28:=yB (hf 28)
       have y29:=yB (hf 29)
       have y30:=yB (hf 30)
       have y31:=yB (hf 31)
       have y32:=yB (hf 32)
       have y33:=yB (hf 33)
       have y34:=yB (hf 34)
       have y35:=yB (hf 35)
       have y36:=yB (hf 36)
       have y37:=yB (hf 37)
       have y38:=yB (hf 38)
       have y39:=yB (hf 39)
       have y40:=yB (hf 40)
       have y41:=yB (hf 41)
       have y42:=yB (hf 42)
       have y43:=yB (hf 43)
       have y44:=yB (hf 44)
       have y45:=yB (hf 45)
       have y46:=yB (hf 46)
       have y47:=yA (hf 47)
       have y48:=yA (hf 48)
       have y49:=yA (hf 49)
       clear hf
       have hA:=zaL hn
       rw[show List.range 50=[0,1,2,3,4,5,6,7,8,9,10,11,12,13,14,15,16,17,18,19,20,21,22,23,24,25,26,27,28,29,30,31,32,33,34,35,36,37,38,39,40,41,42,43,44,45,46,47,48,49]from rfl,hd]at hA
       simp only[List.map_cons,List.map_nil,y0,y1,y2,y3,y4,y5,y6,y7,y8,y9,y10,y11,y12,y13,y14,y15,y16,y17,y18,y19,y20,y21,y22,y23,y24,y25,y26,y27,y28,y29,y30,y31,y32,y33,y34,y35,y36,y37,y38,y39,y40,y41,y42,y43,y44,y45,y46,y47,y48,y49]at hA
       clear y0 y1 y2 y3 y4 y5 y6 y7 y8 y9 y10 y11 y12 y13 y14 y15 y16 y17 y18 y19 y20 y21 y22 y23 y24 y25 y26 y27 y28 y29 y30 y31 y32 y33 y34 y35 y36 y37 y38 y39 y40 y41 y42 y43 y44 y45 y46 y47 y48 y49
       clear hn hd
       subst hA
       go_wp2_with fail
       go_ret
       exact⟨by rw[F.out];rfl,HB.out.trans ((HW.out.trans (hC.mono HW.out.size)).mono HB.out.size)⟩
      ·have HA:Hid (EpOk y2→EcAt ys k):=fun he=>⟨by rw[HK.out];simp only;omega,fun _=>by rw[HK.out,HZ.out];simp only;omega,by rw[HK.out];exact he⟩
       have HF:Hid (¬EpOk y2→Q=false):=fun hne=>(fin (fun h=>hne (by have:=h.2.2;rw[HK.out]at this;exact this))).out
       clear fin hk0
       refine zaf (C:=fun w'=>Below V1.heap.size V1 w') (X:=fun w w'=>Below w.heap.size w w') (n:=50) (by kernel_rfl) (by kernel_rfl) rfl (fun w=>Below.refl _ w) xr.drew ?_
       refine wA 4 ?_
       refine wC 17 kc ?_
       refine wD 18 g1 ?_
       refine wA 19 ?_
       refine wA 4 ?_
       refine wC 21 kc ?_
       refine wD 22 g2 ?_
       refine wB 20 23 ?_
       refine wA 24 ?_
       refine wA 3 ?_
       refine wD 26 g3 ?_
       refine wA 27 ?_
       refine wA 1 ?_
       refine wC 29 kc ?_
       refine wA 3 ?_
       refine wA 31 ?_
       refine w_is (fun w=>Below.refl _ w) _ (.inr ⟨11,28,true,rfl,rfl,zaI rfl⟩) (fun ρ w hC hc hfn hf=>by have e30:ρ (.tmp 30)=_:=hf 30 (by decide);have e32:ρ (.tmp 32)=_:=hf 32 (by decide);(conv=>lhs;simp[execOp,go_sem,hc,e30,e32,hkw,hk1,hk2,hkn])) ?_
       refine wA 33 ?_
       refine wC 34 kc ?_
       refine wA 4 ?_
       refine wC 36 kc ?_
       refine wE 35 37 g4 ?_
       refine wB 28 38 ?_
       refine wB 25 39 ?_
       refine wA 40 ?_
       refine wA 4 ?_
       refine wC 42 kc ?_
       refine za8 (Is _) (fun _ _ _ h _=>h) 25 (.inr ⟨24,41,false,rfl,rfl,zaI rfl⟩) (fun ρ w hC hc hfn hf=>by have e43:ρ (.tmp 43)=_:=hf 43 (by decide);exact⟨_,by (conv=>lhs;simp[execOp,resolve,invoke,go_sem,hc,hfn,e43]),zcH hC (cE w)⟩) ?_
       refine wA 44 ?_
       refine wB 41 45 ?_
       intro A V5 hC hn hd hf
       have y0:=yA (hf 0)
       have y1:=yA (hf 1)
       have y2:=yA (hf 2)
       have y3:=yA (hf 3)
       have y4:=yA (hf 4)
       have y5:=yA (hf 5)
       have y6:=yA (hf 6)
       have y7:=yA (hf 7)
       have y8:=yA (hf 8)
       have y9:=yA (hf 9)
       have y10:=yA (hf 10)
       have y11:=yA (hf 11)
       have y12:=yA (hf 12)
       have y13:=yA (hf 13)
       have y14:=yA (hf 14)
       have y15:=yA (hf 15)
       have y16:=yA (hf 16)
       have y17:=yB (hf 17)
       have y18:=yB (hf 18)
       have y19:=yB (hf 19)
       have y20:=yB (hf 20)
       have y21:=yB (hf 21)
       have y22:=yB (hf 22)
       have y23:=yB (hf 23)
       have y24:=yB (hf 24)
       have y25:=yB (hf 25)
       have y26:=yB (hf 26)
       have y27:=yB (hf 27)
       have y28:=yB (hf 28)
       have y29:=yB (hf 29)
       have y30:=yB (hf 30)
       have y31:=yB (hf 31)
       have y32:=yB (hf 32)
       have y33:=yB (hf 33)
       have y34:=yB (hf 34)
       have y35:=yB (hf 35)
       have y36:=yB (hf 36)
       have y37:=yB (hf 37)
       have y38:=yB (hf 38)
       have y39:=yB (hf 39)
       have y40:=yB (hf 40)
       have y41:=yB (hf 41)
       have y42:=yB (hf 42)
       have y43:=yB (hf 43)
       have y44:=yB (hf 44)
       have y45:=yB (hf 45)
       have y46:=yB (hf 46)
       have y47:=yA (hf 47)
       have y48:=yA (hf 48)
       have y49:=yA (hf 49)
       clear hf
       have hA:=zaL hn
       rw[show List.range 50=[0,1,2,3,4,5,6,7,8,9,10,11,12,13,14,15,16,17,18,19,20,21,22,23,24,25,26,27,28,29,30,31,32,33,34,35,36,37,38,39,40,41,42,43,44,45,46,47,48,49]from rfl,hd]at hA
       simp only[List.map_cons,List.map_nil,y0,y1,y2,y3,y4,y5,y6,y7,y8,y9,y10,y11,y12,y13,y14,y15,y16,y17,y18,y19,y20,y21,y22,y23,y24,y25,y26,y27,y28,y29,y30,y31,y32,y33,y34,y35,y36,y37,y38,y39,y40,y41,y42,y43,y44,y45,y46,y47,y48,y49]at hA
       clear y0 y1 y2 y3 y4 y5 y6 y7 y8 y9 y10 y11 y12 y13 y14 y15 y16 y17 y18 y19 y20 y21 y22 y23 y24 y25 y26 y27 y28 y29 y30 y31 y32 y33 y34 y35 y36 y37 y38 y39 y40 y41 y42 y43 y44 y45 y46 y47 y48 y49
       clear hn hd
       subst hA
       cases q with
       | true=>
        go_wp2_with fail
        go_roundw
        case rel=>
         refine⟨k+1,by omega,by go_num,fun j hj=>?_,HW.out.trans (hC.mono HW.out.size)⟩
         by_cases h:j<k
         ·exact HO.out j h
         ·obtain rfl:j=k:=by omega
          exact HA.out (HE.out.1 rfl)
        case measure=>simp[intOf];omega
       | false=>
        go_wp2_with fail
        go_ret
        exact⟨by rw[HF.out (fun h=>absurd (HE.out.2 h) (by decide))];rfl,HB.out.trans ((HW.out.trans (hC.mono HW.out.size)).mono HB.out.size)⟩
     ·obtain rfl:k=0:=by omega
      have HA:Hid (EpOk y2→EcAt ys 0):=fun he=>⟨by rw[HK.out];simp only;omega,fun h=>absurd h (Nat.lt_irrefl 0),by rw[HK.out];exact he⟩
      have HF:Hid (¬EpOk y2→Q=false):=fun hne=>(fin (fun h=>hne (by have:=h.2.2;rw[HK.out]at this;exact this))).out
      clear fin hk0 g3
      have kc:∀w',Below V1.heap.size V1 w'→w'.cell? (wr.heap.size,0)=xJ y1∧w'.cell? (wr.heap.size,1)=xJ y2:=fun w' h=>
       ⟨by rw[h.cell (World.block_lt_of_cell? V1 _ d0)];exact d0,by rw[h.cell (World.block_lt_of_cell? V1 _ d1)];exact d1⟩
      refine zaf (C:=fun w'=>Below V1.heap.size V1 w') (X:=fun w w'=>Below w.heap.size w w') (n:=50) (by kernel_rfl) (by kernel_rfl) rfl (fun w=>Below.refl _ w) xr.drew ?_
      refine wA 4 ?_
      refine wC 17 kc ?_
      refine wD 18 g1 ?_
      refine wA 19 ?_
      refine wA 4 ?_
      refine wC 21 kc ?_
      refine wD 22 g2 ?_
      refine wB 20 23 ?_
      refine wA 24 ?_
      refine wA 3 ?_
      refine wA 26 ?_
      refine wA 27 ?_
      refine wK ?_
      refine wK ?_
      refine wK ?_
      refine wK ?_
      refine wK ?_
      refine wK ?_
      refine wK ?_
      refine wK ?_
      refine wK ?_
      refine wK ?_
      refine wB 28 38 ?_
      refine wB 25 39 ?_
      refine wA 40 ?_
      refine wA 4 ?_
      refine wC 42 kc ?_
      refine za8 (Is _) (fun _ _ _ h _=>h) 25 (.inr ⟨24,41,false,rfl,rfl,zaI rfl⟩) (fun ρ w hC hc hfn hf=>by have e43:ρ (.tmp 43)=_:=hf 43 (by decide);exact⟨_,by (conv=>lhs;simp[execOp,resolve,invoke,go_sem,hc,hfn,e43]),zcH hC (cE w)⟩) ?_
      refine wA 44 ?_
      refine wB 41 45 ?_
      intro A V5 hC hn hd hf
      have y0:=yA (hf 0)
      have y1:=yA (hf 1)
      have y2:=yA (hf 2)
      have y3:=yA (hf 3)
      have y4:=yA (hf 4)
      have y5:=yA (hf 5)
      have y6:=yA (hf 6)
      have y7:=yA (hf 7)
      have y8:=yA (hf 8)
      have y9:=yA (hf 9)
      have y10:=yA (hf 10)
      have y11:=yA (hf 11)
      have y12:=yA (hf 12)
      have y13:=yA (hf 13)
      have y14:=yA (hf 14)
      have y15:=yA (hf 15)
      have y16:=yA (hf 16)
      have y17:=yB (hf 17)
      have y18:=yB (hf 18)
      have y19:=yB (hf 19)
      have y20:=yB (hf 20)
      have y21:=yB (hf 21)
      have y22:=yB (hf 22)
      have y23:=yB (hf 23)
      have y24:=yB (hf 24)
      have y25:=yB (hf 25)
      have y26:=yB (hf 26)
      have y27:=yB (hf 27)
      have y28:=yB (hf 28)
      have y29:=yB (hf 29)
      have y30:=yB (hf 30)
      have y31:=yB (hf 31)
      have y32:=yB (hf 32)
      have y33:=yB (hf 33)
      have y34:=yB (hf 34)
      have y35:=yB (hf 35)
      have y36:=yB (hf 36)
      have y37:=yB (hf 37)
      have y38:=yB (hf 38)
      have y39:=yB (hf 39)
      have y40:=yB (hf 40)
      have y41:=yB (hf 41)
      have y42:=yB (hf 42)
      have y43:=yB (hf 43)
      have y44:=yB (hf 44)
      have y45:=yB (hf 45)
      have y46:=yB (hf 46)
      have y47:=yA (hf 47)
      have y48:=yA (hf 48)
      have y49:=yA (hf 49)
      clear hf
      have hA:=zaL hn
      rw[show List.range 50=[0,1,2,3,4,5,6,7,8,9,10,11,12,13,14,15,16,17,18,19,20,21,22,23,24,25,26,27,28,29,30,31,32,33,34,35,36,37,38,39,40,41,42,43,44,45,46,47,48,49]from rfl,hd]at hA
      simp only[List.map_cons,List.map_nil,y0,y1,y2,y3,y4,y5,y6,y7,y8,y9,y10,y11,y12,y13,y14,y15,y16,y17,y18,y19,y20,y21,y22,y23,y24,y25,y26,y27,y28,y29,y30,y31,y32,y33,y34,y35,y36,y37,y38,y39,y40,y41,y42,y43,y44,y45,y46,y47,y48,y49]at hA
      clear y0 y1 y2 y3 y4 y5 y6 y7 y8 y9 y10 y11 y12 y13 y14 y15 y16 y17 y18 y19 y20 y21 y22 y23 y24 y25 y26 y27 y28 y29 y30 y31 y32 y33 y34 y35 y36 y37 y38 y39 y40 y41 y42 y43 y44 y45 y46 y47 y48 y49
      clear hn hd
      subst hA
      cases q with
      | true=>
       go_wp2_with fail
       go_roundw
       case rel=>
        refine⟨1,by omega,by go_num,fun j hj=>?_,HW.out.trans (hC.mono HW.out.size)⟩
        obtain rfl:j=0:=by omega
        exact HA.out (HE.out.1 rfl)
       case measure=>simp[intOf];omega
      | false=>
       go_wp2_with fail
       go_ret
       exact⟨by rw[HF.out (fun h=>absurd (HE.out.2 h) (by decide))];rfl,HB.out.trans ((HW.out.trans (hC.mono HW.out.size)).mono HB.out.size)⟩
  ·obtain rfl:k=ys.length:=by omega
   obtain⟨q,hq⟩:∃q:Bool,q=true↔EpOk M:=⟨decide (EpOk M),decide_eq_true_iff⟩
   have HE:Hid (Q=q):=by
    have h1:=HQ.out
    unfold BeOk at h1
    show Q=q
    rw[Bool.eq_iff_iff,h1,hq]
    exact⟨fun h=>h.2,fun h=>⟨HO.out,h⟩⟩
   have cE:=fun w=>zam M q hq w
   clear hq
   go_wp2_with fail
   refine(cE _).mono ?_
   rintro e w1 ⟨rfl,hw⟩
   subst hw
   go_wp2_with fail
   go_ret
   exact⟨by rw[HE.out];rfl,HB.out.trans (HW.out.mono HB.out.size)⟩
def OwnA (w:World)(b:Nat)(y:Int×Int×Int×Int):Prop:=(w.cell? (xQ b 0)=xJ y.1∧w.cell? (xQ b 1)=xJ y.2.1∧w.cell? (xQ b 2)=xJ y.2.2.1∧w.cell? (xQ b 3)=xJ y.2.2.2)∧∀j,w.frozen? ⟨b,j,none⟩=false
theorem ziU (w:World)(i p x m:Int)(T:TypeId)(g:Nat)(hg:g=w.heap.size):OwnA (w.alloc (.cells #[xI i,xI p,xI x,xI m] T)) g (i,p,x,m):=by
 subst hg
 refine⟨⟨by simp,by simp,by simp,by simp⟩,fun j=>by simp⟩
theorem OwnA.lt {w:World}{b:Nat}{y:Int×Int×Int×Int}(h:OwnA w b y):b<w.heap.size:=World.block_lt_of_cell? w _ h.1.1
theorem OwnA.low {w w':World}{b S:Nat}{y:Int×Int×Int×Int}(h:OwnA w b y)(hb:b<S)(hB:Below S w w'):OwnA w' b y:=
 ⟨⟨(hB.cell (p:=xQ b 0) hb).trans h.1.1,(hB.cell (p:=xQ b 1) hb).trans h.1.2.1,(hB.cell (p:=xQ b 2) hb).trans h.1.2.2.1,(hB.cell (p:=xQ b 3) hb).trans h.1.2.2.2⟩,fun j=>(hB.frozen (p:=⟨b,j,none⟩) hb).trans (h.2 j)⟩
theorem OwnA.below {w w':World}{b:Nat}{y:Int×Int×Int×Int}(h:OwnA w b y)(hb:Below w.heap.size w w'):OwnA w' b y:=h.low h.lt hb
def put4 (w:World)(b:Nat)(i p x m:Int):World:=(xC w b #[xI i,xI p,xI x,xI m])
theorem OwnA.set {w:World}{b:Nat}{y:Int×Int×Int×Int}(h:OwnA w b y)(i p x m:Int):OwnA (put4 w b i p x m) b (i,p,x,m):=by
 obtain⟨⟨h0,h1,h2,h3⟩,hf⟩:=h
 unfold put4
 refine⟨⟨?_,?_,?_,?_⟩,fun j=>?_⟩<;>simp[go_sem,hf,h0,h1,h2,h3]
def shB (n:Int):Bool:=decide (0≤n)&&decide (n≤65535)
theorem zey (n:Int)(w:World):Calls Tryz.prog 152 #[xI n] w fun e w'=>e=.returned (.bool (shB n))∧w=w':=by
 unfold shB
 by_cases h1:0≤n
 ·by_cases h2:n≤65535
  ·go_enter Tryz.func152,Tryz.ntmps152
   go_wp2
   go_ret
   exact⟨by simp[h1,h2],rfl⟩
  ·have d2:decide (n≤65535)=false:=decide_eq_false h2
   go_enter Tryz.func152,Tryz.ntmps152
   go_wp2
   go_ret
   exact⟨by simp,rfl⟩
 ·have d1:decide (0≤n)=false:=decide_eq_false h1
  go_enter Tryz.func152,Tryz.ntmps152
  go_wp2
  go_ret
  exact⟨by simp,rfl⟩
theorem zkF (n:Int):shB n=true↔0≤n∧n≤65535:=by simp[shB]
theorem zi9 (i p n m:Int)(Q:Bool)(hQ:Q=true↔zcr (i,p,n,m))(w:World):
  Calls Tryz.prog 135 #[.agg #[xI i,xI p,xI n,xI m]] w fun e w'=>e=.returned (.bool Q)∧Below w.heap.size w w':=by
 unfold zcr EpOk at hQ
 simp only at hQ
 rw[←zkF n,←zkF m]at hQ
 have CN:=xh (zey n)
 have CM:=xh (zey m)
 have HB:Hid (Below w.heap.size w (w.alloc (.cells #[xI i,xI p,xI n,xI m] 120))):=xr.alloc xl _
 generalize shB n=qn at*
 generalize shB m=qm at*
 by_cases h0:0≤i
 ·skip
  by_cases h1:i<64
  ·skip
   by_cases h2:0≤p
   ·skip
    by_cases h3:p≤4294967295
    ·skip
     cases qn with
     | false=>
      have HQ:Hid (Q=false):=by
       cases Q with
       | false=>rfl
       | true=>have h9:=hQ.1 rfl;first|(exact absurd h9.2.2.1 (by decide))|omega
      clear hQ
      go_enter Tryz.func135,Tryz.ntmps135
      go_wp2_with fail
      refine(CN.out _).mono ?_
      rintro e w' ⟨rfl,hw⟩
      subst hw
      go_wp2_with fail
      go_ret
      exact⟨by rw[HQ.out];rfl,HB.out⟩
     | true=>
      have HQ:Hid (Q=qm):=by
       show Q=qm
       rw[Bool.eq_iff_iff,hQ]
       exact⟨fun h=>h.2.2.2,fun h=>⟨⟨h0,h1⟩,⟨h2,h3⟩,rfl,h⟩⟩
      clear hQ
      go_enter Tryz.func135,Tryz.ntmps135
      go_wp2_with fail
      refine(CN.out _).mono ?_
      rintro e w' ⟨rfl,hw⟩
      subst hw
      go_wp2_with fail
      refine(CM.out _).mono ?_
      rintro e w' ⟨rfl,hw⟩
      subst hw
      go_wp2_with fail
      go_ret
      exact⟨by rw[HQ.out];rfl,HB.out⟩
    ·skip
     have d:decide (p≤4294967295)=false:=decide_eq_false h3
     have HQ:Hid (Q=false):=by
      cases Q with
      | false=>rfl
      | true=>have h9:=hQ.1 rfl;first|(exact absurd h9.1 (by decide))|omega
     clear hQ
     go_enter Tryz.func135,Tryz.ntmps135
     go_wp2_with fail
     go_ret
     exact⟨by rw[HQ.out];rfl,HB.out⟩
   ·skip
    have d:decide (0≤p)=false:=decide_eq_false h2
    have HQ:Hid (Q=false):=by
     cases Q with
     | false=>rfl
     | true=>have h9:=hQ.1 rfl;first|(exact absurd h9.1 (by decide))|omega
    clear hQ
    go_enter Tryz.func135,Tryz.ntmps135
    go_wp2_with fail
    go_ret
    exact⟨by rw[HQ.out];rfl,HB.out⟩
  ·skip
   have d:decide (i<64)=false:=decide_eq_false h1
   have HQ:Hid (Q=false):=by
    cases Q with
    | false=>rfl
    | true=>have h9:=hQ.1 rfl;first|(exact absurd h9.1 (by decide))|omega
   clear hQ
   go_enter Tryz.func135,Tryz.ntmps135
   go_wp2_with fail
   go_ret
   exact⟨by rw[HQ.out];rfl,HB.out⟩
 ·skip
  have d:decide (0≤i)=false:=decide_eq_false h0
  have HQ:Hid (Q=false):=by
   cases Q with
   | false=>rfl
   | true=>have h9:=hQ.1 rfl;first|(exact absurd h9.1 (by decide))|omega
  clear hQ
  go_enter Tryz.func135,Tryz.ntmps135
  go_wp2_with fail
  go_ret
  exact⟨by rw[HQ.out];rfl,HB.out⟩
theorem ziO (v u:Value)(ys zs:List (Int×Int×Int×Int))(w:World)(hy:As w v ys)(hz:As w u zs)(hl:ys.length≤3000):
  Calls Tryz.prog 62 #[v,u] w fun e w'=>(∃b:Bool,e=.returned (.bool b)∧(b=true↔ys=zs))∧Below w.heap.size w w':=by
 obtain⟨a,c,rfl⟩:=hy.form
 obtain⟨a',c',rfl⟩:=hz.form
 have HY:=xh hy
 have HZ:=xh hz
 clear hy hz
 by_cases hne:ys.length=zs.length
 ·have hL:((ys.length:Int) !=(zs.length:Int))=false:=by rw[hne];simp
  have HN:=xh hne
  clear hne
  go_enter Tryz.func62,Tryz.ntmps62
  go_wp2_with fail
  go_loopw [5] (fun i wr=>∃k:Nat,k≤ys.length∧i=xI k∧(∀i,i<k→ys.getD i (0,0,0,0)=zs.getD i (0,0,0,0))∧Below w.heap.size w wr) (fun i _=>ys.length-(intOf i).toNat)
  case atStart=>exact⟨0,Nat.zero_le _,rfl,fun i h=>absurd h (Nat.not_lt_zero _),Below.refl _ _⟩
  case round=>
   obtain⟨k,hk,rfl,hsame,hbel⟩:=hrel
   have HS:=xh hsame
   have HW:=xh hbel
   clear hsame hbel
   by_cases hlt:k<ys.length
   ·obtain⟨b,off,rfl,hB,p0,p1,p2,p3⟩:=(HY.out.below HW.out).at hlt
    have hlt2:k<zs.length:=by have:=HN.out;omega
    obtain⟨b2,off2,rfl,hB2,q0,q1,q2,q3⟩:=(HZ.out.below HW.out).at hlt2
    obtain⟨⟨y1,y2,y3,y4⟩,hyk⟩:∃y,ys.getD k (0,0,0,0)=y:=⟨_,rfl⟩
    obtain⟨⟨z1,z2,z3,z4⟩,hzk⟩:∃z,zs.getD k (0,0,0,0)=z:=⟨_,rfl⟩
    rw[hyk]at p0 p1 p2 p3
    rw[hzk]at q0 q1 q2 q3
    simp only at p0 p1 p2 p3 q0 q1 q2 q3
    have HK:=xh hyk
    have HK2:=xh hzk
    clear hyk hzk
    have E1:=zna
    have E2:=zpD
    obtain⟨q,hq⟩:∃q,eqA y1 y2 y3 y4 z1 z2 z3 z4=q:=⟨_,rfl⟩
    have HQ:Hid (q=true↔(y1,y2,y3,y4)=(z1,z2,z3,z4)):=by rw[←hq];exact zov
    go_wp2_with fail
    go_region
    cases q with
    | true=>
     go_wp2_with fail
     go_roundw
     case rel=>
      refine⟨k+1,by omega,by go_num,?_,HW.out.drew⟩
      intro j hj
      by_cases h:j<k
      ·exact HS.out j h
      ·obtain rfl:j=k:=by omega
       rw[HK.out,HK2.out];exact HQ.out.1 rfl
     case measure=>simp[intOf];omega
    | false=>
     go_wp2_with fail
     go_ret
     refine⟨⟨false,rfl,⟨(fun h=>by cases h),fun h=>?_⟩⟩,HW.out.drew⟩
     subst h
     exact absurd (HQ.out.2 (HK.out.symm.trans HK2.out)) (by decide)
   ·obtain rfl:k=ys.length:=by omega
    go_wp2_with fail
    go_ret
    exact⟨⟨true,rfl,⟨fun _=>zlJ HN.out HS.out,fun _=>rfl⟩⟩,HW.out⟩
 ·have hL:((ys.length:Int) !=(zs.length:Int))=true:=by simpa using fun h:(ys.length:Int)=zs.length=>hne (by omega)
  go_enter Tryz.func62,Tryz.ntmps62
  go_wp2_with fail
  go_ret
  exact⟨⟨false,rfl,⟨(fun h=>by cases h),fun h=>absurd (congrArg List.length h) hne⟩⟩,Below.refl _ _⟩
end Go.Proofs.YtjghebcnmoojmaaGreat
