/- Beacons without an echo: An atomic pointer to an echo of a row; The program's walk over echoes: Which echoes are right: Beacons with an echo: Mathematics of bea -/
import Derived.Test.YtjghebcnmoojmaaGreatV09
import Derived.Test.YtjghebcnmoojmaaGreatV10
import Derived.Laws.LoneSync
import Derived.Shelf.RegionOpen
import Derived.LoopIn
import Derived.OwnWalkIn
import Derived.TacticsInMore
import Derived.Deep.Cut
set_option maxRecDepth 100000
set_option maxHeartbeats 32000000
namespace Go.Proofs.YtjghebcnmoojmaaGreat
open Go.RowKit MX
theorem zlo (w:World)(y1 y2:Int):GC RE (w.alloc (.cells #[xI y1,xI y2] 113)) w.heap.size 0 (y1,y2):=zcT RE w (y1,y2) _ rfl 113
def OwE (w:World)(S:Nat)(v:Value)(xs:List (Int×Int)):Prop:=w.ownsRow S 113 2 v xs.length (zmW xs)
theorem OwE.form {w:World}{S:Nat}{v:Value}{xs:List (Int×Int)}(h:OwE w S v xs):∃a c,v=.slice a xs.length c:=zap h
theorem OwE.lt {w:World}{S:Nat}{v:Value}{xs:List (Int×Int)}(h:OwE w S v xs)(b:Nat)(hb:v.ownBlock=some b):S≤b∧b<w.heap.size:=World.ownsRow.lt h b hb
theorem OwE.set {w:World}{S b:Nat}{v u:Value}{xs:List (Int×Int)}(h:OwE w S v xs)(hb:b<S)(j:Nat):OwE (w.setCell ⟨b,j,none⟩ u) S v xs:=zbi h hb j
theorem OwE.mono {w:World}{S B:Nat}{v:Value}{xs:List (Int×Int)}(h:OwE w S v xs)(hB:B≤S):OwE w B v xs:=zas h hB
theorem zjN {ys:List (Int×Int)}{k:Nat}(h:k<ys.length):ys.take (k+1)=ys.take k++[ys.getD k (0,0)]:=by
 rw[List.take_add_one,List.getD_eq_getElem?_getD,List.getElem?_eq_getElem h];rfl
theorem OwnB2.set {w:World}{b:Nat}{M:Int}{v:Value}(h:OwnB2 w b M v)(M':Int)(v':Value):OwnB2 (xC w b #[xI M',v']) b M' v':=by
 obtain⟨⟨h0,h1⟩,hf⟩:=h
 refine⟨⟨?_,?_⟩,fun j=>?_⟩<;>simp[go_sem,hf,h0,h1]
theorem zbb {B:Nat}{u w:World}{b:Nat}(h:Below B u w)(hB:B≤b)(M:Int)(v:Value):Below B u (xC w b #[xI M,v]):=xC2 h hB
theorem zka {w:World}{b S n:Nat}{v:Value}{xs:List Value}(h:w.ownsRow S 113 2 v n xs)(hb:b<S)(M:Int)(u:Value):(xC w b #[xI M,u]:World).ownsRow S 113 2 v n xs:=zbi (zbi h hb 0) hb 1
section
open Go.WideShapes Go.ChangeShapes
section
variable {P:Program} {f:FuncId} {fn:Func}
theorem zeP (hf:P.funcs[f]? =some fn)(hname:(fn.name=="runtime.NumGoroutine")=false)(hb:fn.body.isNone=true)(hn:Extern.findNext fn=none)
  (he:Extern.find fn=some (Extern.Atomic.loadT .ptr)) {a:Addr} {x:Option Addr} {w:World} (hc:w.cell? a=some (.pointer x)):
  (callFunc f #[.pointer (some a)]).run P w=.ok (.value (.pointer x)) w:=by
 rw[run_callFunc_extern hf hname hb hn he]
 change (Sem.run P (do Extern.Atomic.read .ptr (←asAddr (.pointer (some a)))) w).andThen _=_
 simp[Extern.Atomic.read,asAddr,hc,Result.andThen]
theorem zel (hf:P.funcs[f]? =some fn)(hname:(fn.name=="runtime.NumGoroutine")=false)(hb:fn.body.isNone=true)(hn:Extern.findNext fn=none)
  (he:Extern.find fn=some Extern.Atomic.storeT) {a:Addr} {x:Option Addr} {u:Value} {w:World} (hc:w.cell? a=some u) (hz:w.frozen? a=false):
  (callFunc f #[.pointer (some a),.pointer x]).run P w=.ok (.value (.tuple #[])) (w.setCell a (.pointer x)):=by
 rw[run_callFunc_extern hf hname hb hn he]
 change (Sem.run P (do
  store (←asAddr (.pointer (some a))) (.pointer x) .atomic
  pure Extern.Atomic.none_) w).andThen _=_
 simp[asAddr,hc,hz,run_store P w a (.pointer x) .atomic rfl,Result.andThen,Extern.Atomic.none_]
theorem zeS (hf:P.funcs[f]? =some fn)(hname:(fn.name=="runtime.NumGoroutine")=false)(hb:fn.body.isNone=true)(hn:Extern.findNext fn=none)
  (he:Extern.find fn=some (Extern.Atomic.swapT .ptr)) {a:Addr} {x y:Option Addr} {w:World} (hc:w.cell? a=some (.pointer y)) (hz:w.frozen? a=false):
  (callFunc f #[.pointer (some a),.pointer x]).run P w=.ok (.value (.pointer y)) (w.setCell a (.pointer x)):=by
 rw[run_callFunc_extern hf hname hb hn he]
 change (Sem.run P (do
  let a' ←asAddr (.pointer (some a))
  let old ←Extern.Atomic.read .ptr a'
  store a' (.pointer x) .atomic
  pure old) w).andThen _=_
 simp[Extern.Atomic.read,asAddr,hc,hz,run_store P w a (.pointer x) .atomic rfl,Result.andThen]
end
def Pts (w:World)(a:Addr):Prop:=(∃v,w.cell? a=some v)∧∃e n,w.shape? a.block=some (e,n)∧liesAt Tryz.prog Tryz.prog.depth e (n/Tryz.prog.cellsOf e) a.off 113 1=true
theorem Pts.low {w w':World}{a:Addr}(h:Pts w a)(hb:w'.heap[a.block]? =w.heap[a.block]?):Pts w' a:=by
 obtain⟨⟨v,h1⟩,e,n,h2,h3⟩:=h
 refine⟨⟨v,by rw[World.cell?_of_block hb];exact h1⟩,e,n,?_,h3⟩
 unfold World.shape? at h2 ⊢
 rw[hb];exact h2
theorem Pts.below {w w':World}{a:Addr}{B:Nat}(h:Pts w a)(hb:Below B w w')(hB:a.block<B):Pts w' a:=h.low (hb.block a.block hB)
theorem Pts.set {w:World}{a:Addr}(h:Pts w a){b j:Nat}(hb:a.block≠b)(v:Value):Pts (w.setCell ⟨b,j,none⟩ v) a:=h.low (Below.heap_setCell w ⟨b,j,none⟩ v a.block hb)
theorem zjc:Tryz.prog.underlying 171=some (.pointer 113):=by kernel_rfl
theorem zjf:Tryz.prog.underlying 173=some .unsafePointer:=by kernel_rfl
theorem zpt:∃i,Tryz.prog.info? 113=some i∧i.size=2:=by
 have h:(Tryz.prog.info? 113).map (fun i=>i.size)=some 2:=by kernel_rfl
 obtain⟨i,h1,h2⟩:=Option.map_eq_some_iff.1 h
 exact⟨i,h1,h2⟩
theorem zjs {a:Addr}{w:World}(h:Pts w a):(convert 171 173 (.pointer (some a))).run Tryz.prog w=.ok (.pointer (some a)) w:=by
 obtain⟨⟨v,h1⟩,_⟩:=h
 exact run_convert_to_unsafe zjc zjf (by kernel_rfl) h1
theorem zjo {a:Addr}{w:World}(h:Pts w a):(convert 173 171 (.pointer (some a))).run Tryz.prog w=.ok (.pointer (some a)) w:=by
 obtain⟨⟨v,h1⟩,e,n,h2,h3⟩:=h
 obtain⟨i,hi,hz⟩:=zpt
 simp[convert,Conv.unsafePointer,Conv.seenAt,viewAt,sizeOf,typeInfo,run_underlying zjc,run_underlying zjf,hi,hz,h2,h3,variablesAt,Result.andThen]
theorem zoL (b:Nat)(a:Addr)(w:World)(hc:w.cell? (xQ b 0)=some (.pointer (some a)))(hx:Pts w a):
  Calls Tryz.prog 126 #[xP b] w fun e w'=>e=.returned (.pointer (some a))∧w=w':=by
 have hl:=zeP (P:=Tryz.prog) (f:=144) Tryz.func144 (by kernel_rfl) (by kernel_rfl) (by kernel_rfl) (by kernel_rfl) hc
 have hv:=zjo hx
 go_enter Tryz.func126,Tryz.ntmps126
 go_wp2
 go_ret
 exact⟨rfl,rfl⟩
theorem zm0 (b:Nat)(x:Option Addr)(a:Addr)(w:World)(hc:w.cell? (xQ b 0)=some (.pointer x))(hf:w.frozen? (xQ b 0)=false)(hx:Pts w a):
  Calls Tryz.prog 124 #[xP b,.pointer (some a)] w fun e w'=>e=.returned (.tuple #[])∧w'=w.setCell (xQ b 0) (.pointer (some a)):=by
 have hl:=zel (P:=Tryz.prog) (f:=142) (x:=some a) Tryz.func142 (by kernel_rfl) (by kernel_rfl) (by kernel_rfl) (by kernel_rfl) hc hf
 have hv:=zjs hx
 go_enter Tryz.func124,Tryz.ntmps124
 go_wp2
 go_end0
 exact⟨rfl,rfl⟩
theorem zoS (b:Nat)(y:Addr)(a:Addr)(w:World)(hc:w.cell? (xQ b 0)=some (.pointer (some y)))(hf:w.frozen? (xQ b 0)=false)(hx:Pts w a)(hy:Pts w y)(hb:y.block≠b):
  Calls Tryz.prog 125 #[xP b,.pointer (some a)] w fun e w'=>e=.returned (.pointer (some y))∧w'=w.setCell (xQ b 0) (.pointer (some a)):=by
 have hl:=zeS (P:=Tryz.prog) (f:=143) (x:=some a) Tryz.func143 (by kernel_rfl) (by kernel_rfl) (by kernel_rfl) (by kernel_rfl) hc hf
 have hv:=zjs hx
 have hu:=zjo (hy.set (b:=b) (j:=0) hb (.pointer (some a)))
 go_enter Tryz.func125,Tryz.ntmps125
 go_wp2
 go_ret
 exact⟨rfl,rfl⟩
def Sits (w:World)(v:Value)(n:Nat):Prop:=∀b off len cap,v=.slice (some ⟨b,off,none⟩) len cap→∀i,i<n→Pts w ⟨b,off+i*2,none⟩
def El (w:World)(v:Value)(ys:List (Int×Int)):Prop:=Es w v ys∧Sits w v ys.length
theorem El.below {w w':World}{v:Value}{ys:List (Int×Int)}(h:El w v ys)(hb:Below w.heap.size w w'):El w' v ys:=
 ⟨h.1.below hb,fun b off len cap e i hi=>by
  have h2:=h.2 b off len cap e i hi
  obtain⟨⟨u,hu⟩,_⟩:=h2
  exact Pts.below (h.2 b off len cap e i hi) hb (World.block_lt_of_cell? w _ hu)⟩
theorem El.alloc {w:World}{v:Value}{ys:List (Int×Int)}(h:El w v ys)(O:Obj):El (w.alloc O) v ys:=h.below (xr.alloc xl O)
theorem zj8 {d n i:Nat}(h:i<n):rowAt Tryz.prog (sameLayout Tryz.prog Tryz.prog.depth · 113) (d+1) 113 n (i*2) 1=true:=by
 unfold rowAt
 simp only[zfF]
 rw[if_neg (by decide),Bool.or_eq_true_iff]
 left
 simp only[Bool.and_eq_true,beq_iff_eq,decide_eq_true_eq]
 refine⟨⟨by omega,by omega⟩,?_⟩
 kernel_rfl
theorem zhp {n i:Nat}(h:i<n):liesAt Tryz.prog Tryz.prog.depth 113 n (i*2) 113 1=true:=by
 have hd:Tryz.prog.depth=Tryz.prog.depth-1+1:=by kernel_rfl
 rw[hd]
 unfold liesAt
 rw[zkw]
 simp only[Bool.or_false]
 rw[hd]
 exact zj8 h
theorem OwE.el {w:World}{S:Nat}{v:Value}{xs:List (Int×Int)}(h:OwE w S v xs):El w v xs:=by
 refine⟨(zeF h).1,fun b off len cap e i hi=>?_⟩
 obtain⟨h1,h2⟩:=h
 rcases h2 with ⟨rfl,h0⟩|⟨g,cap',cur,rfl,_,hg,hnc,hcm,hcs,htake⟩
 ·cases e
 ·simp only[Value.slice.injEq,Option.some.injEq,Addr.mk.injEq,and_true]at e
  obtain⟨⟨rfl,rfl⟩,rfl,rfl⟩:=e
  have hE:=(zeF (w:=w) (base:=S) (n:=xs.length) (v:=.slice (some (xQ g 0)) xs.length cap') ⟨h1,.inr ⟨g,cap',cur,rfl,by assumption,hg,hnc,hcm,hcs,htake⟩⟩).1
  refine⟨⟨_,(hE.all hi).2.1⟩,113,cur.size,?_,?_⟩
  ·unfold World.shape?;rw[hg]
  ·rw[zfF,Nat.zero_add]
   exact zhp (by rw[hcs,Nat.mul_div_cancel _ (by decide)];omega)
theorem znp (w:World)(y1 y2:Int)(g:Nat)(hg:g=w.heap.size):Pts (w.alloc (.cells #[xI y1,xI y2] 113)) (xQ g 0):=by
 subst hg
 refine⟨⟨xI y1,by simp⟩,113,2,?_,?_⟩
 ·unfold World.shape?
  rw[World.alloc_heap_new w (.cells #[xI y1,xI y2] 113)]
  rfl
 ·rw[zfF]
  exact zhp (n:=1) (i:=0) (by decide)
end
def zg6 (ys:List (Int×Int)):Nat→Int×Int
 | 0=>(-1,0)
 | k+1=>ys.getD k (0,0)
def prE (ys:List (Int×Int))(k:Nat):(Int×Int)×(Int×Int):=(zg6 ys k,ys.getD k (0,0))
def zbW (ys:List (Int×Int))(k:Nat):List ((Int×Int)×(Int×Int)):=(List.range k).map (prE ys)
theorem zcS (ys:List (Int×Int))(k:Nat):zbW ys (k+1)=zbW ys k++[prE ys k]:=by simp[zbW,List.range_succ]
theorem zer (ys:List (Int×Int))(k:Nat):(zbW ys k).length=k:=by simp[zbW]
theorem zek (ys:List (Int×Int)){k n:Nat}(h:k≤n):zbW ys k <+:zbW ys n:=by
 obtain⟨m,rfl⟩:=Nat.exists_eq_add_of_le h
 refine⟨((List.range' k m).map (prE ys)),?_⟩
 rw[zbW,zbW,←List.map_append]
 congr 1
 rw[List.range_eq_range',List.range_eq_range',←List.range'_append (s:=0) (m:=k) (n:=m) (step:=1)]
 simp
theorem zlC {ys:List (Int×Int)}{pre:List ((Int×Int)×(Int×Int))}{x:(Int×Int)×(Int×Int)}{n:Nat}(h:(pre++[x]) <+:zbW ys n):pre.length<n∧x=prE ys pre.length∧pre=zbW ys pre.length:=by
 have h1:=h.length_le
 rw[zer,List.length_append,List.length_singleton]at h1
 have h2:(pre++[x])=zbW ys (pre.length+1):=by
  have h3:=zek ys h1
  rw[List.prefix_iff_eq_take]at h h3
  rw[h,h3]
  simp[zer]
 rw[zcS]at h2
 have h4:=List.append_inj h2 (by rw[zer])
 exact⟨h1,by simpa using h4.2,h4.1⟩
def encE (x:(Int×Int)×(Int×Int)):Array Value:=#[.agg #[xI x.1.1,xI x.1.2],.agg #[xI x.2.1,xI x.2.2]]
theorem zhP (v:Value)(ys:List (Int×Int))(w:World)(hv:Es w v ys):
  Calls Tryz.prog 101 #[v] w fun e w'=>e=.returned (.func (.func 123) #[] #[xP w.heap.size])∧w'=w.alloc (.cells #[v] 40):=by
 obtain⟨a,c,rfl⟩:=hv.form
 clear hv
 go_enter Tryz.func101,Tryz.ntmps101
 go_wp2
 go_ret
 exact⟨rfl,rfl⟩
theorem zn1 {P:Program}{n m:Nat}{f:FuncId}{args:Array Value}{w:World}{R:Ending→World→Prop}(h:Calls P f args w R):
  Fence.wide.fn f∧(Fence.wide.depth.isSome=true→1≤n)∧CallsIn Fence.wide m P f args w R:=⟨trivial,fun h=>(by cases h),callsIn_wide.2 h⟩
theorem zgx (W:World):W.grownBy W.drew none:=⟨rfl,rfl,rfl,Nat.le_refl _,fun _ _ _=>rfl⟩
def EcC (w:World)(b o:Nat)(y:Int×Int):Prop:=(w.cell? ⟨b,o,none⟩=xJ y.1∧w.cell? ⟨b,o+1,none⟩=xJ y.2)∧Pts w ⟨b,o,none⟩
theorem EcC.low {w w':World}{b o:Nat}{y:Int×Int}(h:EcC w b o y)(hb:w'.heap[b]? =w.heap[b]?):EcC w' b o y:=
 ⟨⟨(World.cell?_of_block (a:=⟨b,o,none⟩) hb).trans h.1.1,(World.cell?_of_block (a:=⟨b,o+1,none⟩) hb).trans h.1.2⟩,Pts.low (a:=⟨b,o,none⟩) h.2 hb⟩
theorem EcC.lt {w:World}{b o:Nat}{y:Int×Int}(h:EcC w b o y):b<w.heap.size:=World.block_lt_of_cell? w _ h.1.1
theorem El.ec {w:World}{a:Option Addr}{c:Nat}{ys:List (Int×Int)}(h:El w (.slice a ys.length c) ys){i:Nat}(hi:i<ys.length):∃b off,a=some ⟨b,off,none⟩∧b<w.heap.size∧EcC w b (off+i*2) (ys.getD i (0,0)):=by
 obtain⟨b,off,rfl,hb,h1,h2⟩:=h.1.at hi
 exact⟨b,off,rfl,hb,⟨h1,h2⟩,h.2 b off _ c rfl i hi⟩
theorem zmF (n:Nat)(We w:World)(Bl:Nat)(a:Option Addr)(c:Nat)(ys:List (Int×Int))(hE:El We (.slice a ys.length c) ys)(hWe:Below We.heap.size We w)(hl:ys.length≤3000)
  (hBl:w.cell? (xQ Bl 0)=some (.slice a ys.length c)):
  SeqV Fence.wide n Tryz.prog 123 #[xP Bl] encE We.heap.size Bl (Bl+1) 2 (zbW ys ys.length) w:=by
 intro l J Jx W hW hJ hJx hY h0
 have hm:Tryz.prog.follows .mixedOrders=true:=by kernel_rfl
 have hBlt:=World.block_lt_of_cell? w _ hBl
 have hWW:=hWe.trans (hW.mono hWe.size)
 have hcB:W.cell? (xQ Bl 0)=some (.slice a ys.length c):=(hW.cell (p:=xQ Bl 0) hBlt).trans hBl
 obtain⟨S,hS⟩:∃S,W.heap.size=S:=⟨_,rfl⟩
 have hBS:Bl<S:=by have:=hW.size;rw[←hS];exact Nat.lt_of_lt_of_le hBlt this
 have hn0:We.heap.size≤S:=by rw[←hS];exact hWW.size
 rw[hS]at hJ hJx hY
 obtain⟨W1,hW1⟩:∃W1,W1=W.alloc (.cells #[.pointer none] 175):=⟨_,rfl⟩
 obtain⟨W2,hW2⟩:∃W2,W2=W1.alloc (.cells #[xI (-1),xI 0] 113):=⟨_,rfl⟩
 have hs1:W1.heap.size=S+1:=by rw[hW1];simp[hS]
 have hs2:W2.heap.size=S+2:=by rw[hW2];simp[hs1]
 have hJ1:J [] W1:=by rw[hW1];exact hJ.alloc _ h0
 have hJ2:J [] W2:=by rw[hW2];exact hJ.alloc _ hJ1
 have hc0:W2.cell? (xQ S 0)=some (.pointer none):=by rw[hW2,hW1,←hS];simp
 have hf0:W2.frozen? (xQ S 0)=false:=by rw[hW2,hW1,←hS];simp
 have hE2:EcC W2 (S+1) 0 (-1,0):=by
  rw[hW2]
  exact⟨⟨by rw[←hs1];simp,by rw[←hs1];simp⟩,znp W1 (-1) 0 (S+1) hs1.symm⟩
 have hb2:Below S W W2:=by rw[hW2,hW1];exact((Below.refl S W).alloc (by omega) _).alloc (by simp;omega) _
 have cs:=zm0 S none (S+1,0) W2 hc0 hf0 hE2.2
 obtain⟨W3,hW3⟩:∃W3,W3=W2.setCell (xQ S 0) (xP (S+1)):=⟨_,rfl⟩
 have hg3:W2.grownBy W3 (some S):=by rw[hW3];exact grownBy_setCell' W2 S _
 have hJ3:J [] W3:=hJ _ _ _ _ hJ2 hg3 (fun r e=>by cases e;omega)
 have hc3:W3.cell? (xQ S 0)=some (.pointer (some ((S+1),0))):=by rw[hW3];exact World.cell?_setCell_same' _ _ _ (by rw[hc0];rfl)
 have hf3:W3.frozen? (xQ S 0)=false:=by rw[hW3,World.frozen?_setCell];exact hf0
 have hE3:EcC W3 (S+1) 0 (-1,0):=hE2.low (hg3.block _ (by omega) (by simp))
 have hb3:Below S W W3:=by rw[hW3];exact hb2.setCell (p:=xQ S 0) xl _
 have hs3:W3.heap.size=S+2:=by rw[hW3];simp[hs2]
 rw[←hW3]at cs
 clear hJ1 hJ2 hc0 hf0 hE2 hb2 hg3 h0
 have HX:=xh (And.intro hJ3 (And.intro hc3 (And.intro hf3 (And.intro hE3 (And.intro hb3 hs3)))))
 have HJ:=xh hJ
 have HY:=xh hY
 have HE:=xh hE
 have HWW:=xh hWW
 have HcB:=xh hcB
 clear hJ3 hc3 hf3 hE3 hb3 hs3 hJ hY hJx hE hWe hW hBl hBlt hcB hWW
 refine callsIn_of_wp Tryz.func123 rfl trivial ?_ rfl
 simp only[Tryz.ntmps123,List.size_toArray,List.length_cons,List.length_nil,Nat.reduceAdd,Nat.reduceSub,Array.replicate_succ,Array.replicate_zero,List.push_toArray,List.append_toArray,List.nil_append,List.cons_append]
 gi_wp2_with fail
 rw[←hW1,←hW2]
 refine zn1 (cs.mono ?_)
 rintro e V3 ⟨rfl,rfl⟩
 clear cs
 have hcB3:V3.cell? (xQ Bl 0)=some (.slice a ys.length c):=(HX.out.2.2.2.2.1.cell (p:=xQ Bl 0) hBS).trans HcB.out
 clear hW3 hW2 hW1 hs1 hs2
 gi_wp2_with fail
 clear hcB3
 gi_loopw [11] (fun i wr=>∃(k ab ao:Nat),k≤ys.length∧i=xI k∧J (zbW ys k) wr∧wr.cell? (xQ S 0)=some (.pointer (some ⟨ab,ao,none⟩))∧wr.frozen? (xQ S 0)=false∧EcC wr ab ao (zg6 ys k)∧(ab<We.heap.size∨ab=S+1)∧S+2≤wr.heap.size∧wr.heap[Bl]? =W.heap[Bl]? ∧Below We.heap.size We wr) (fun i _=>ys.length-(intOf i).toNat)
 case atStart=>
  obtain⟨h1,h2,h3,h4,h5,h6⟩:=HX.out
  exact⟨0,S+1,0,Nat.zero_le _,rfl,h1,h2,h3,h4,.inr rfl,Nat.le_of_eq h6.symm,h5.block Bl hBS,HWW.out.trans (h5.mono hn0)⟩
 case round=>
  obtain⟨k,ab,ao,hk,rfl,hj,hc,hf,hp,hab,hsz,hbl,hbel⟩:=hrel
  clear HX
  have hcB:wr.cell? (xQ Bl 0)=some (.slice a ys.length c):=(World.cell?_of_block (a:=xQ Bl 0) hbl).trans HcB.out
  by_cases hlt:k<ys.length
  ·obtain⟨b,off,rfl,hb0,_⟩:=HE.out.ec hlt
   obtain⟨b',off',e,hb,hec⟩:=(HE.out.below hbel).ec hlt
   simp only[Option.some.injEq,Addr.mk.injEq,and_true]at e
   obtain⟨rfl,rfl⟩:=e
   have habS:ab≠S:=by rcases hab with h|h<;>omega
   have csw:=zoS S ⟨ab,ao,none⟩ ⟨b,off+k*2,none⟩ wr hc hf hec.2 hp.2 habS
   obtain⟨W5,hW5⟩:∃W5,W5=wr.setCell (xQ S 0) (.pointer (some ⟨b,off+k*2,none⟩)):=⟨_,rfl⟩
   rw[←hW5]at csw
   have hg5:wr.grownBy W5 (some S):=by rw[hW5];exact grownBy_setCell' wr S _
   have hj5:J (zbW ys k) W5:=HJ.out _ _ _ _ hj hg5 (fun r e=>by cases e;omega)
   have hc5:W5.cell? (xQ S 0)=some (.pointer (some ⟨b,off+k*2,none⟩)):=by rw[hW5];exact World.cell?_setCell_same' _ _ _ (by rw[hc];rfl)
   have hf5:W5.frozen? (xQ S 0)=false:=by rw[hW5,World.frozen?_setCell];exact hf
   have hs5:S+2≤W5.heap.size:=by rw[hW5];simpa using hsz
   have hp5:EcC W5 ab ao (zg6 ys k):=hp.low (hg5.block _ hp.lt (by simpa using habS))
   have he5:EcC W5 b (off+k*2) (ys.getD k (0,0)):=hec.low (hg5.block _ hec.lt (by simp;omega))
   have hbl5:W5.heap[Bl]? =W.heap[Bl]? :=(hg5.block _ (by omega) (by simp;omega)).trans hbl
   have hbel5:Below We.heap.size We W5:=hbel.trans ((Below.refl _ wr).grown hg5 hbel.size (fun k e=>by cases e;omega))
   have hjd:J (zbW ys k) W5.drew:=HJ.out _ _ _ _ hj5 (zgx W5) (fun r e=>by cases e)
   obtain⟨fn,tmps,assign,body,hy,hR⟩:=HY.out (zbW ys k) (prE ys k) W5.drew hjd hs5 (by rw[←zcS];exact zek ys hlt)
   have CL:=xh (zoL S ⟨b,off+k*2,none⟩ W5.drew hc5 he5.2)
   obtain⟨⟨x1,x2⟩,hx⟩:∃x,zg6 ys k=x:=⟨_,rfl⟩
   obtain⟨⟨y1,y2⟩,hyk⟩:∃y,ys.getD k (0,0)=y:=⟨_,rfl⟩
   obtain⟨⟨p1,p2⟩,_⟩:=hp5
   obtain⟨⟨q1,q2⟩,hq3⟩:=he5
   simp only[prE,encE,hx,hyk]at hy p1 p2 q1 q2
   have HX5:=xh (And.intro hc5 (And.intro hf5 (And.intro hs5 (And.intro hbl5 (And.intro hbel5 hq3)))))
   have HY5:=xh hyk
   have HG:=xh (And.intro hb0 (And.intro hlt hj5))
   have hq0:(0:Int)≤(k:Int):=by omega
   have hq1:(k:Int)<(ys.length:Int):=by omega
   clear hj hf hp hab hsz hbl hbel hec hg5 hj5 hc5 hf5 hs5 hbl5 hbel5 hjd hx hyk hq3 HcB hb hb0
   gi_wp2_with fail
   refine zn1 (csw.mono ?_)
   rintro e V5 ⟨rfl,rfl⟩
   clear csw hcB hc hW5
   gi_wp2_with fail
   have WC:=fun(m' n':Nat) (R:Ending→World→Prop) (h:∀e w',(e=.returned (.pointer (some ⟨b,off+k*2,none⟩))∧V5.drew=w')→R e w')=>zn1 (n:=n') (m:=m') (CL.out.mono (R':=R) h)
   clear CL
   gi_region_with_o (first|(refine WC _ _ _ ?_;rintro e w' ⟨rfl,rfl⟩)|(refine⟨fun h=>(by cases h),hR.mono ?_⟩;rintro e W7 ⟨q,rfl,hq⟩))
   all_goals
    (cases q with
    | true=>
     have h7:=xh (hq.1 rfl)
     clear hq
     gi_wp2_with fail
     go_roundw
     case rel=>
      obtain⟨j7,kb7,ks7,b7⟩:=h7.out
      obtain⟨c5,f5,s5,l5,w5,t5⟩:=HX5.out
      refine⟨k+1,b,off+k*2,by omega,by go_num,by rw[zcS];exact j7,(ks7.cell xl (by omega) (by show S<V5.heap.size;omega)).trans c5,(ks7.frozen xl (by omega) (by show S<V5.heap.size;omega)).trans f5,?_,.inl HG.out.1,Nat.le_trans s5 ks7.size,(kb7.same Bl xl (by omega) (by show Bl<V5.heap.size;omega)).trans l5,w5.drew.trans b7⟩
      have e7:EcC V5 b (off+k*2) (zg6 ys (k+1)):=by rw[show zg6 ys (k+1)=ys.getD k (0,0)from rfl,HY5.out];exact⟨⟨q1,q2⟩,t5⟩
      exact e7.low (b7.block b HG.out.1)
     case measure=>simp[intOf];omega
    | false=>
     have h7:=xh (hq.2 rfl)
     clear hq
     gi_wp2_with fail
     refine bodyPost_ret (results_none rfl _ _ _) rfl ?_
     exact⟨⟨_,rfl⟩,.inr ⟨zbW ys (k+1),zek ys HG.out.2.1,by rw[zcS];exact h7.out⟩⟩)
  ·obtain rfl:k=ys.length:=by omega
   gi_wp2_with fail
   go_end0
   exact⟨⟨_,rfl⟩,.inl hj⟩
section
attribute [local go_sem] Oper.semAt_some
theorem zhT {P:Program}{m:Nat}{f:FuncId}{args:Array Value}{w:World}{R:Ending→World→Prop}(h:Calls P f args w R):
  Fence.wide.fn f∧CallsIn Fence.wide m P f args w R:=⟨trivial,callsIn_wide.2 h⟩
theorem zjC {P:Program}{m l:Nat}{f:FuncId}{args:Array Value}{w:World}{R:Ending→World→Prop}(h:Calls P f args w R):
  (Fence.wide.inRound l).fn f∧CallsIn (Fence.wide.inRound l) m P f args w R:=⟨trivial,CallsIn.inRound l (callsIn_wide.2 h)⟩
theorem zfC {β:Type}{D E:Nat}{I I':β→World→Prop}(h:AbK D E I)(h':AbK D E I'):AbK D E (fun s W=>I s W∧I' s W):=
 fun s W W' row hs hg hr=>⟨h s W W' row hs.1 hg hr,h' s W W' row hs.2 hg hr⟩
theorem zhg {β:Type}{D E:Nat}(p:β→Prop):AbK D E (fun s (_:World)=>p s):=fun _ _ _ _ hs _ _=>hs
theorem zfX {β:Type}{D E B:Nat}{t:TypeId}(hB:B<D)(f:β→Value):AbK D E (fun s W=>Boxed W B t (f s)):=
 fun _ _ _ _ hs hg hr=>hs.kept hg (fun e=>by have:=hr B e.symm;omega)
theorem zgg {β:Type}{D E n:Nat}{w:World}(hn:n≤D)(hw:n≤w.heap.size):AbK D E (fun(_:β) W=>Below n w W):=
 fun _ _ _ _ hs hg hr=>hs.grown hg (Nat.le_trans hw hs.size) (fun k e=>by have:=hr k e;omega)
def PrOk (x:(Int×Int)×(Int×Int)):Prop:=x.1.1<x.2.1∧x.2.1<64∧EpOk x.2.2
theorem zlg (ys:List (Int×Int)):(∀i,i<ys.length→PrOk (prE ys i))↔∀i,i<ys.length→EcAt ys i:=by
 constructor
 ·intro h i
  induction i with
  | zero=>intro hi;have:=h 0 hi;have h3:(-1:Int)<(ys.getD 0 (0,0)).1:=this.1;exact⟨⟨by omega,this.2.1⟩,fun h0=>absurd h0 (by decide),this.2.2⟩
  | succ i ih=>
   intro hi
   have h1:=ih (by omega)
   have h2:=h (i+1) hi
   unfold PrOk prE zg6 at h2
   simp only at h2
   exact⟨⟨by have:=h1.1.1;omega,h2.2.1⟩,fun _=>by rw[Nat.add_sub_cancel];exact h2.1,h2.2.2⟩
 ·intro h i hi
  have h1:=h i hi
  unfold PrOk prE
  cases i with
  | zero=>exact⟨by have h3:(0:Int)≤(ys.getD 0 (0,0)).1:=h1.1.1;show(-1:Int)<(ys.getD 0 (0,0)).1;omega,h1.1.2,h1.2.2⟩
  | succ i=>exact⟨by have:=h1.2.1 (by omega);rw[Nat.add_sub_cancel]at this;exact this,h1.1.2,h1.2.2⟩
theorem zhm (n:Int)(q:Bool)(hq:q=true↔EpOk n)(w:World):Calls Tryz.prog 121 #[xI n] w fun e w'=>e=.returned (.bool q)∧w=w':=by
 unfold EpOk at hq
 by_cases h1:0≤n
 ·by_cases h2:n≤4294967295
  ·obtain rfl:q=true:=hq.2 ⟨h1,h2⟩
   clear hq
   go_enter Tryz.func121,Tryz.ntmps121
   go_wp2
   go_ret
   exact⟨rfl,rfl⟩
  ·obtain rfl:q=false:=by cases q with
    | false=>rfl
    | true=>exact absurd (hq.1 rfl).2 h2
   clear hq
   go_enter Tryz.func121,Tryz.ntmps121
   go_wp2
   go_ret
   exact⟨rfl,rfl⟩
 ·obtain rfl:q=false:=by cases q with
   | false=>rfl
   | true=>exact absurd (hq.1 rfl).1 h1
  clear hq
  go_enter Tryz.func121,Tryz.ntmps121
  go_wp2
  go_ret
  exact⟨rfl,rfl⟩
theorem zm7 {W W2:World}{r:Nat}(x1 x2 y1 y2:Int)(hg:((W.alloc (.cells #[xI x1,xI x2] 113)).alloc (.cells #[xI y1,xI y2] 113)).grownBy W2 (some r))(hr:r<W.heap.size):
  (W2.cell? (W.heap.size,0)=xJ x1∧W2.cell? (W.heap.size,1)=xJ x2)∧(W2.cell? (W.heap.size+1,0)=xJ y1∧W2.cell? (W.heap.size+1,1)=xJ y2)∧W.heap.size+2≤W2.heap.size:=by
 have h1:=hg.block W.heap.size (by simp;omega) (by simp;omega)
 have h2:=hg.block (W.heap.size+1) (by simp) (by simp;omega)
 refine⟨⟨?_,?_⟩,⟨?_,?_⟩,by simpa using hg.size⟩
 ·rw[World.cell?_of_block (a:=xQ W.heap.size 0) h1];simp
 ·rw[World.cell?_of_block (a:=xQ W.heap.size 1) h1];simp
 ·rw[World.cell?_of_block (a:=xQ (W.heap.size+1) 0) h2];simp
 ·rw[World.cell?_of_block (a:=xQ (W.heap.size+1) 1) h2];simp
theorem znK {W W2:World}{r:Nat}(y1 y2:Int)(hg:(W.alloc (.cells #[xI y1,xI y2] 113)).grownBy W2 (some r))(hr:r<W.heap.size):
  (W2.cell? (W.heap.size,0)=xJ y1∧W2.cell? (W.heap.size,1)=xJ y2)∧W.heap.size+1≤W2.heap.size:=by
 have h1:=hg.block W.heap.size (by simp) (by simp;omega)
 refine⟨⟨?_,?_⟩,by simpa using hg.size⟩
 ·rw[World.cell?_of_block (a:=xQ W.heap.size 0) h1];simp
 ·rw[World.cell?_of_block (a:=xQ W.heap.size 1) h1];simp
def I29 (w:World)(pre:List ((Int×Int)×(Int×Int)))(W:World):Prop:=Boxed W w.heap.size 4 (.bool false)∧(∀x∈pre,PrOk x)∧Below w.heap.size w W
def X29 (w:World)(ex:Code)(pre:List ((Int×Int)×(Int×Int)))(W:World):Prop:=Boxed W w.heap.size 4 (.bool false)∧(ex=.ret∧∃x∈pre,¬PrOk x)∧Below w.heap.size w W
theorem zdR {P:Program}{n:Nat}{fn:Func}{R:Ending→World→Prop}{D:Nat}{tmps:Array Value}{w:World}{v:Value}(hK:w.heap[D]? =some (.deferred (some [])))(hr:(results fn tmps).run P (w.putObj D (.deferred none))=.ok v (w.putObj D (.deferred none)))(h:R (.returned v) (w.putObj D (.deferred none))):
  bodyPostM Fence.wide n P fn R .ret {tmps,defers:=[{target:=.collected D,args:=#[]}]} w:=⟨by simp,.inl ⟨_,_,rfl,run_takeDeferred hK,_,hr,h⟩⟩
theorem zfY (v:Value)(ys:List (Int×Int))(q:Bool)(hq:q=true↔∀i,i<ys.length→PrOk (prE ys i))(w:World)(hE:El w v ys)(hl:ys.length≤3000):
  Calls Tryz.prog 122 #[v] w fun e w'=>e=.returned (.bool q)∧Below w.heap.size w w':=by
 obtain⟨a,c,rfl⟩:=hE.1.form
 obtain⟨W1,hW1⟩:∃W1,W1=w.alloc (.cells #[.bool false] 4):=⟨_,rfl⟩
 have hb1:Below w.heap.size w W1:=by rw[hW1];exact xr.alloc xl _
 have cT:=zhP _ ys W1 (hE.below hb1).1
 obtain⟨W2,hW2⟩:∃W2,W2=W1.alloc (.cells #[.slice a ys.length c] 40):=⟨_,rfl⟩
 rw[←hW2]at cT
 have hs1:W1.heap.size=w.heap.size+1:=by rw[hW1];simp
 have hs2:W2.heap.size=w.heap.size+2:=by rw[hW2];simp[hs1]
 have bR:Boxed W2 w.heap.size 4 (.bool false):=by rw[hW2,hW1];exact(Boxed.new w 4 _).alloc _
 have bL:Boxed W2 (w.heap.size+1) 40 (.slice a ys.length c):=by rw[hW2,←hs1];exact Boxed.new W1 40 _
 have hb2:Below w.heap.size w W2:=by rw[hW2];exact hb1.alloc (by omega) _
 have SQ:=zmF 4 w W2 (w.heap.size+1) a c ys hE hb2 hl bL.cell
 refine callsIn_wide.1 (callsIn_of_wp_marks (n:=5) Tryz.func122 rfl trivial ?_ rfl)
 simp only[Tryz.ntmps122,List.size_toArray,List.length_cons,List.length_nil,Nat.reduceAdd,Nat.reduceSub,Array.replicate_succ,Array.replicate_zero,List.push_toArray,List.append_toArray,List.nil_append,List.cons_append]
 gi_wp2_with fail
 rw[←hW1]
 rw[hs1]at cT
 refine zhT (cT.mono ?_)
 rintro e V2 ⟨rfl,rfl⟩
 clear cT hW1 hW2
 gi_wp2_with fail
 refine zcI rfl (by decide) (gf:=123) (lb:=#[xP (w.heap.size+1)]) rfl trivial (enters_of Tryz.func123 (by kernel_rfl) rfl) SQ xr (fun _=>rfl)
  (w.heap.size+2) (w.heap.size+2+2+2) hs2 rfl (by omega) (by omega) (by omega)
  (I29 w) (X29 w)
  (zfC (zfX (by omega) _) (zfC (zhg _) (zgg (by omega) xl)))
  (fun ex=>zfC (zfX (by omega) _) (zfC (zhg _) (zgg (by omega) xl)))
  ⟨bR,fun x h=>(by cases h),hb2⟩ ?round ?done ?stop
 case round=>
  rintro l pre ⟨⟨x1,x2⟩,y1,y2⟩ W hI hsz hpre
  have HQ:=xh (And.intro hI (And.intro hsz hpre))
  clear hE hb1 bR bL hb2 SQ hI hpre
  simp[encE]
  gi_wp2_with fail
  refine⟨(Keep.alloc _ _ _ _).trans (Keep.alloc _ _ _ _),((Below.refl _ W).alloc (by omega) _).alloc (by simp;omega) _,fun V hg=>?_⟩
  obtain⟨⟨a0,a1⟩,⟨e0,e1⟩,hs⟩:=zm7 x1 x2 y1 y2 hg (by omega)
  have hbx:Boxed V w.heap.size 4 (.bool false):=((HQ.out.1.1.alloc _).alloc _).kept hg (by simp;omega)
  have hbw:Below w.heap.size w V:=((HQ.out.1.2.2.alloc (by omega) _).alloc (by simp;omega) _).grown hg (by simp;omega) (fun k e=>by cases e;omega)
  obtain⟨q2,hq2⟩:∃q2:Bool,q2=true↔EpOk y2:=⟨decide (EpOk y2),decide_eq_true_iff⟩
  have cI:=zhm y2 q2 hq2 V
  have HV:=xh (And.intro hbx (And.intro hbw hg))
  have r0:=hbx.cell
  have rf:=hbx.frozen
  clear hbx hbw hg
  generalize W.heap.size=g at*
  have NO:¬PrOk ((x1,x2),y1,y2)→Keep (w.heap.size+1) (w.heap.size+2+2+2) V (V.setCell (w.heap.size,0) (.bool false))∧X29 w .ret (pre++[((x1,x2),y1,y2)]) (V.setCell (w.heap.size,0) (.bool false)):=fun hn=>
   ⟨Keep.setCell V _ _ _ (.inl (Nat.lt_succ_self _)),HV.out.1.set _,⟨rfl,_,List.mem_append_right _ (List.mem_singleton.2 rfl),hn⟩,HV.out.2.1.setCell (p:=xQ w.heap.size 0) xl _⟩
  have HNO:=xh NO
  clear NO
  by_cases c1:y1≤x1
  ·have hn:Hid (¬PrOk ((x1,x2),y1,y2)):=fun h=>by have:=h.1;simp only at this;omega
   gi_wp2_with (refine⟨trivial,?_⟩)
   exact HNO.out hn.out
  ·by_cases c2:64≤y1
   ·have hn:Hid (¬PrOk ((x1,x2),y1,y2)):=fun h=>by have:=h.2.1;simp only at this;omega
    gi_wp2_with (refine⟨trivial,?_⟩)
    exact HNO.out hn.out
   ·have hp:Hid (PrOk ((x1,x2),y1,y2)↔EpOk y2):=⟨fun h=>h.2.2,fun h=>⟨by show x1<y1;omega,by show y1<64;omega,h⟩⟩
    have HQ2:=xh hq2
    clear hq2
    cases q2 with
    | false=>
     gi_wp2_with (refine zjC (cI.mono ?_);rintro e V' ⟨rfl,rfl⟩)
     exact HNO.out fun h=>by cases HQ2.out.2 (hp.out.1 h)
    | true=>
     gi_wp2_with (refine zjC (cI.mono ?_);rintro e V' ⟨rfl,rfl⟩)
     refine⟨Keep.refl _ _ _,Below.refl _ _,HV.out.1,fun x hx=>?_,HV.out.2.1⟩
     rcases List.mem_append.1 hx with hx|hx
     ·exact HQ.out.1.2.1 x hx
     ·rw[List.mem_singleton.1 hx];exact hp.out.2 (by have:=HQ2.out;simpa using this)
 case done=>
  rintro W ⟨hB,hP,hbel⟩ hK
  have hc:=hB.cell
  have hf:=hB.frozen
  gi_wp2_with fail
  have hK2:=(KeepsOthers.setCell W (w.heap.size,0) (.bool true)).same _ _ hK rfl
  have h2:=((hB.set (.bool true)).kept (grownBy_putObj' _ (w.heap.size+2) (.deferred none)) (by simp)).cell
  have h3:Below w.heap.size w ((W.setCell (w.heap.size,0) (.bool true)).putObj (w.heap.size+2) (.deferred none)):=(hbel.setCell (p:=xQ w.heap.size 0) xl _).grown (grownBy_putObj' _ _ _) (by simp;exact hbel.size) (fun k e=>by cases e;omega)
  obtain rfl:q=true:=hq.2 fun i hi=>hP _ (List.mem_map.2 ⟨i,List.mem_range.2 hi,rfl⟩)
  refine zdR hK2 (v:=.bool true) ?_ ⟨rfl,h3⟩
  generalize ((W.setCell (w.heap.size,0) (.bool true)).putObj (w.heap.size+2) (.deferred none))=W5 at*
  simp[results,Tryz.results122,go_sem,h2]
 case stop=>
  rintro ex pre W hpre ⟨hB,⟨rfl,hP⟩,hbel⟩ hK
  have h2:=(hB.kept (grownBy_putObj' _ (w.heap.size+2) (.deferred none)) (by simp)).cell
  have h3:Below w.heap.size w (W.putObj (w.heap.size+2) (.deferred none)):=hbel.grown (grownBy_putObj' _ _ _) hbel.size (fun k e=>by cases e;omega)
  obtain rfl:q=false:=by
   cases q with
   | false=>rfl
   | true=>
    obtain⟨x,hx,hn⟩:=hP
    obtain⟨i,hi,rfl⟩:=List.mem_map.1 (hpre.subset hx)
    exact absurd (hq.1 rfl i (List.mem_range.1 hi)) hn
  gi_wp2_with fail
  refine zdR hK (v:=.bool false) ?_ ⟨rfl,h3⟩
  generalize (W.putObj (w.heap.size+2) (.deferred none))=W5 at*
  simp[results,Tryz.results122,go_sem,h2]
theorem zcX (M:Int)(v:Value)(ys:List (Int×Int))(Q:Bool)(hQ:Q=true↔BeOk M ys)(w:World)(hE:El w v ys)(hl:ys.length≤3000):
  Calls Tryz.prog 100 #[.agg #[xI M,v]] w fun e w'=>e=.returned (xI (if Q then 0 else 1))∧Below w.heap.size w w':=by
 obtain⟨a,c,rfl⟩:=hE.1.form
 have hb:Below w.heap.size w (w.alloc (.cells #[xI M,.slice a ys.length c] 42)):=xr.alloc xl _
 obtain⟨q1,hq1⟩:∃q1:Bool,q1=true↔EpOk M:=⟨decide (EpOk M),decide_eq_true_iff⟩
 obtain⟨q2,hq2⟩:∃q2:Bool,q2=true↔∀i,i<ys.length→PrOk (prE ys i):=by
  by_cases h:∀i,i<ys.length→PrOk (prE ys i)
  ·exact⟨true,⟨fun _=>h,fun _=>rfl⟩⟩
  ·exact⟨false,⟨fun h'=>(by cases h'),fun h'=>absurd h' h⟩⟩
 have CI:=xh (zhm M q1 hq1 (w.alloc (.cells #[xI M,.slice a ys.length c] 42)))
 have CA:=xh (zfY _ ys q2 hq2 (w.alloc (.cells #[xI M,.slice a ys.length c] 42)) (hE.below hb) hl)
 have hQ2:Q=(q1&&q2):=by
  have h3:Q=true↔(q1&&q2)=true:=by
   rw[hQ,Bool.and_eq_true,hq1,hq2,zlg]
   exact and_comm
  cases Q<;>cases h:(q1&&q2)<;>simp_all
 have HB:=xh hb
 clear hq1 hq2 hQ hE hb
 subst hQ2
 cases q1 with
 | false=>
  go_enter Tryz.func100,Tryz.ntmps100
  go_wp2_with (refine CI.out.mono ?_;rintro e w1 ⟨rfl,rfl⟩)
  go_ret
  exact⟨rfl,HB.out⟩
 | true=>
  cases q2 with
  | false=>
   go_enter Tryz.func100,Tryz.ntmps100
   go_wp2_with fail
   refine CI.out.mono ?_
   rintro e w1 ⟨rfl,rfl⟩
   go_wp2_with fail
   refine CA.out.mono ?_
   rintro e w1 ⟨rfl,hb⟩
   have HB2:=xh (HB.out.trans (hb.mono HB.out.size))
   clear hb
   go_wp2_with fail
   go_ret
   exact⟨rfl,HB2.out⟩
  | true=>
   go_enter Tryz.func100,Tryz.ntmps100
   go_wp2_with fail
   refine CI.out.mono ?_
   rintro e w1 ⟨rfl,rfl⟩
   go_wp2_with fail
   refine CA.out.mono ?_
   rintro e w1 ⟨rfl,hb⟩
   have HB2:=xh (HB.out.trans (hb.mono HB.out.size))
   clear hb
   go_wp2_with fail
   go_ret
   exact⟨rfl,HB2.out⟩
end
section
def wkF (ys:List (Int×Int))(id ep:Int):Nat→List (Int×Int)×Bool
 | 0=>([],false)
 | k+1=>
  let r:=wkF ys id ep k
  let y:=ys.getD k (0,0)
  let hit:= !r.2&&decide (id≤y.1)
  ((r.1++(if hit then[(id,ep)]else[]))++(if y.1≠id then[y]else[]),r.2||hit)
def winF (ys:List (Int×Int))(id ep:Int):List (Int×Int):=
 (wkF ys id ep ys.length).1++(if(wkF ys id ep ys.length).2 then[]else[(id,ep)])
variable {ys:List (Int×Int)} {id ep:Int} {k:Nat}
theorem zjb {ops:Array Oper}{rest:List Oper}{o:Oper}{a:Act}{Q:Exit→Act→World→Prop}{W:World}(hgd:o.guard=none)(s x:Operand)
  (ho:o.op=.call {callee:=.builtin .append,args:=#[s,x],argTypes:=#[40,40]}) (w:World) (y1 y2:Int) (hW:W=w.alloc (.cells #[xI y1,xI y2] 113)) (S:Nat) (v:Value) (xs:List (Int×Int))
  (hs:a.eval s=v) (hx:a.eval x=.slice (some (w.heap.size,0)) 1 1) (hown:OwE w S v xs) (hl:xs.length≤3000) (hS:S≤w.heap.size)
  (h:∀g cap w',OwE w' S (.slice (some (xQ g 0)) (xs.length+1) cap) (xs++[(y1,y2)])→Below S w w'→wpList Tryz.prog ops Q rest (a.put o.dst (.slice (some (xQ g 0)) (xs.length+1) cap)) w'):wpList Tryz.prog ops Q (o::rest) a W:=
 zeK (R:=RE) hgd s x ho w (y1,y2) 113 hW S v xs hs hx hown hl hS h
end
def EcIn (y:Int×Int):Prop:=(0≤y.1∧y.1<64)∧EpOk y.2
theorem zfN {ys:List (Int×Int)}{i:Nat}(h:i<ys.length):ys.getD i (0,0)=ys[i]:=by simp[List.getD,h]
theorem BeOk.mono {M:Int}{ys:List (Int×Int)}(h:BeOk M ys){i j:Nat}(hij:i<j)(hj:j<ys.length):(ys.getD i (0,0)).1<(ys.getD j (0,0)).1:=by
 induction j with
 | zero=>omega
 | succ j ih=>
  have h2:=(h.1 (j+1) hj).2.1 (by omega)
  rw[Nat.add_sub_cancel]at h2
  by_cases e:i=j
  ·subst e;exact h2
  ·exact Int.lt_trans (ih (by omega) (by omega)) h2
theorem zhG {M:Int}{ys:List (Int×Int)}:BeOk M ys↔ys.Pairwise (fun a b=>a.1<b.1)∧(∀y∈ys,EcIn y)∧EpOk M:=by
 constructor
 ·intro h
  refine⟨List.pairwise_iff_getElem.2 fun i j hi hj hij=>?_,fun y hy=>?_,h.2⟩
  ·have:=h.mono hij hj
   rwa [zfN hi,zfN hj]at this
  ·obtain⟨i,hi,rfl⟩:=List.mem_iff_getElem.1 hy
   have:=h.1 i hi
   unfold EcAt at this
   rw[zfN hi]at this
   exact⟨this.1,this.2.2⟩
 ·rintro⟨h1,h2,h3⟩
  refine⟨fun i hi=>?_,h3⟩
  have h4:=h2 _ (List.getElem_mem hi)
  unfold EcAt
  rw[zfN hi]
  refine⟨h4.1,fun hp=>?_,h4.2⟩
  rw[zfN (show i-1<ys.length by omega)]
  exact List.pairwise_iff_getElem.1 h1 (i-1) i (by omega) hi (by omega)
section
attribute [local go_sem] Oper.semAt_some
theorem zjd {F:Fence}{n:Nat}{P:Program}{ops:Array Oper}{rest:List Oper}{o:Oper}{a:Act}{Q:Exit→Act→World→Prop}{w:World}(hg:o.guard=none)(s x:Operand)(t:TypeId)
  (hop:o.op=Op.call {callee:=Callee.builtin Builtin.append,args:=#[s,x],argTypes:=#[t,t]}) (v u r:Value) (w':World) (hs:a.eval s=v) (hx:a.eval x=u)
  (hr:(Builtin.append_ #[t,t] o.type #[v,u]).run P w=.ok r w') (h:wpListIn F n P ops Q rest (a.put o.dst r) w'):wpListIn F n P ops Q (o::rest) a w:=by
 refine wpListIn_plain hg fun K hK'=>?_
 unfold Oper.wpIn
 refine⟨?_,?_⟩
 ·simp[Oper.about,hop,resolve,Target.leads,Sem.run_pure]
 ·rw[Oper.semAt_plain F _ _ (by rw[hop];intro c hc';cases hc')]
  simp[execOp,hop,resolve,invoke,builtin,hs,hx,hr,Result.andThen]
  exact hK' _ _ h
section
variable (R:RowT)
theorem zgd (w:World)(ty:TypeId)(S:Nat)(v:Value)(xs:List R.α)(hown:w.ownsRow S R.T R.K v xs.length (zaA R xs))(b:Nat)(y:R.α)(hy:GC R w b 0 y)(hl:xs.length≤3000)(hS:S≤w.heap.size):
  ∃g cap w',(Builtin.append_ #[R.SL,R.SL] ty #[v,.slice (some (xQ b 0)) 1 1]).run Tryz.prog w=.ok (.slice (some (xQ g 0)) (xs.length+1) cap) w'∧w'.ownsRow S R.T R.K (.slice (some (xQ g 0)) (xs.length+1) cap) (xs++[y]).length (zaA R (xs++[y]))∧w.grownBy w' v.ownBlock∧(v.ownBlock=some g∨w.heap.size≤g):=by
 obtain⟨i0,hi,hz0,hz1,hz2⟩:=info_parts R.hinfo
 have hzs:=R.hz
 have hbb:=R.hb
 have hpos:=R.hK
 have e:zaA R (xs++[y])=zaA R xs++R.cl y:=by rw[zdi,zf8]
 have e2:(xs++[y]).length=xs.length+1:=by simp
 have hnews:∀j u,(R.cl y)[j]? =some u→w.cell? (((xQ b 0):Addr).add j)=some u:=fun j u hj=>by
  have:=(List.getElem?_eq_some_iff.1 hj).1
  rw[R.hcl]at this
  rw[zdk,hy j this];exact hj
 have hone:∀u∈R.cl y,u.oneCell'=true:=R.hone y
 have hfl:=zbS R xs
 have hcl1:(R.cl y).length=1*R.K:=by rw[R.hcl,Nat.one_mul]
 have hby:(xs.length+1)*R.bytes≤140737488355328:=Nat.le_trans (Nat.mul_le_mul (show xs.length+1≤3001 by omega) hbb) (by decide)
 have new:∀{w':World} {v':Value} {n:Nat} {zs:List Value},w'.ownsRow w.heap.size R.T R.K v' (n+1) zs→∃g cap,v'=.slice (some (xQ g 0)) (n+1) cap∧w.heap.size≤g:=fun h=>by
  rcases h.2 with ⟨_,h0⟩|⟨g,cap,_,rfl,hg,_⟩
  ·omega
  ·exact⟨g,cap,rfl,hg⟩
 rw[e,e2]
 rcases hown.2 with ⟨rfl,h0⟩|⟨g,cap,cur,rfl,hg1,hg2,_⟩
 ·obtain⟨v',w',hr,h2,h3,_,_⟩:=run_append_own_at (P:=Tryz.prog) w w.heap.size R.SL ty R.T i0 R.zero R.K R.bytes R.hSL hi hz0 hz1 hz2 hzs hpos xS xs.length (zaA R xs) ⟨hown.1,.inl ⟨rfl,h0⟩⟩ (xQ b 0) 1 1 (R.cl y) hcl1 hnews hone (by unfold maxLen;omega) hby xl
  obtain⟨g,cap,rfl,hg⟩:=new h2
  exact⟨g,cap,w',hr,zas h2 hS,h3,.inr hg⟩
 ·by_cases hroom:xs.length+1≤cap
  ·obtain⟨w',hr,h2,h3⟩:=run_append_fits (P:=Tryz.prog) w S R.SL ty R.T i0 R.K R.hSL hi hz1 g xs.length cap (zaA R xs) hown (xQ b 0) 1 1 (R.cl y) hcl1 hnews hone hroom
   exact⟨g,cap,w',hr,h2,h3,.inl rfl⟩
  ·obtain⟨v',w',hr,h2,h3⟩:=run_append_arg_grows (P:=Tryz.prog) w R.SL ty R.T i0 R.zero R.K R.bytes R.hSL hi hz0 hz1 hz2 hzs hpos (xQ g 0) xs.length cap (zaA R xs) hfl (hown.cells rfl) (xQ b 0) 1 1 (R.cl y) hcl1 hnews (by omega) (by unfold maxLen;omega) hby
   obtain⟨g',cap',rfl,hg⟩:=new h2
   exact⟨g',cap',w',hr,zas h2 hS,⟨h3.os,h3.tape,h3.output,h3.size,fun k hk _=>h3.block k hk (by simp)⟩,.inr hg⟩
end
def zb6 (pre:List ((Int×Int)×(Int×Int))):List (Int×Int):=pre.map Prod.snd
theorem zgt (ys:List (Int×Int)):zb6 (zbW ys ys.length)=ys:=by
 refine List.ext_getElem (by simp[zb6,zbW]) fun i h1 h2=>?_
 simp[zb6,zbW,prE,List.getD,h2]
theorem zgl (pre:List ((Int×Int)×(Int×Int)))(x:(Int×Int)×(Int×Int)):zb6 (pre++[x])=zb6 pre++[x.2]:=by simp[zb6]
end
theorem zht {ops:Array Oper}{rest:List Oper}{o:Oper}{a:Act}{Q:Exit→Act→World→Prop}{w:World}(hgd:o.guard=none)(s x:Operand)
  (ho:o.op=.call {callee:=.builtin .append,args:=#[s,x],argTypes:=#[26,26]}) (base:Nat) (xs ys:List Int)
  (hown:w.ownsRow base 5 1 (a.eval s) xs.length (xs.map (Value.int .u8))) (hx:Bs w (a.eval x) ys) (h63:xs.length+ys.length≤1000) (hbase:base≤w.heap.size)
  (h:∀v' w',w'.ownsRow base 5 1 v' (xs++ys).length ((xs++ys).map (Value.int .u8))→Below base w w'→w.heap.size≤w'.heap.size→w.grownBy w' (a.eval s).ownBlock→wpList Tryz.prog ops Q rest (a.put o.dst v') w'):wpList Tryz.prog ops Q (o::rest) a w:=by
 obtain⟨i0,hi,hz0,hz1,hz2⟩:=info_parts Tryz.info5
 obtain⟨_,_,⟨ad,cap,hv,hz,rfl⟩|⟨b,off,cap,hv,hcap,hcs⟩⟩:=hx
 ·cases ad with
  | none=>
   obtain rfl:cap=0:=hz rfl
   refine wpList_append_own_none hgd s x 26 ho base 5 i0 1 Tryz.underlying26 hi _ _ _ rfl hown hv ?_
   rw[List.append_nil]at h
   exact h _ _ hown xr xl ⟨rfl,rfl,rfl,Nat.le_refl _,fun _ _ _=>rfl⟩
  | some ad=>
   refine wpList_append_own w hgd s x 26 ho base 5 i0 (.int .u8 0) 1 1 Tryz.underlying26 hi hz0 hz1 hz2 rfl (by decide) _ _ _ rfl hown ad 0 cap [] hv (by simp) (by simp) (by simp) (by unfold maxLen;omega) (by omega) hbase fun v' w1 hown1 hgrow _=>?_
   refine h v' w1 (by simpa using hown1) (xr.grown hgrow hbase (fun k hk=>(hown.lt k hk).1)) hgrow.size hgrow
 ·refine wpList_append_own w hgd s x 26 ho base 5 i0 (.int .u8 0) 1 1 Tryz.underlying26 hi hz0 hz1 hz2 rfl (by decide) _ _ _ rfl hown ⟨b,off,none⟩ ys.length cap (ys.map (Value.int .u8)) hv (by simp) (zdD hcs) (ones ys) (by unfold maxLen;omega) (by omega) hbase fun v' w1 hown1 hgrow _=>?_
  refine h v' w1 ?_ (xr.grown hgrow hbase (fun k hk=>(hown.lt k hk).1)) hgrow.size hgrow
  rw[List.length_append,List.map_append];exact hown1
def ecB (y:Int×Int):List Int:=y.1::lo y.2 4
def beB (M:Int)(ys:List (Int×Int)):List Int:=lo M 4++[(ys.length:Int)]++(ys.map ecB).flatten
theorem zju (y:Int×Int):(ecB y).length=5:=by simp[ecB,zan]
theorem zcw (ys:List (Int×Int)):((ys.map ecB).flatten).length=5*ys.length:=by
 induction ys with
 | nil=>rfl
 | cons y ys ih=>simp only[List.map_cons,List.flatten_cons,List.length_append,zju,ih,List.length_cons];omega
theorem zl8 (ys:List (Int×Int))(k:Nat)(h:k<ys.length):((ys.take (k+1)).map ecB).flatten=((ys.take k).map ecB).flatten++ecB (ys.getD k (0,0)):=by
 rw[zjN h,List.map_append,List.flatten_append];simp
theorem BeOk.lo {M:Int}{ys:List (Int×Int)}(h:BeOk M ys):∀i,i<ys.length→(i:Int)≤(ys.getD i (0,0)).1:=by
 intro i
 induction i with
 | zero=>intro hi;exact(h.1 0 hi).1.1
 | succ i ih=>
  intro hi
  have h1:=ih (by omega)
  have h2:=(h.1 (i+1) hi).2.1 (by omega)
  rw[Nat.add_sub_cancel]at h2
  omega
theorem BeOk.len {M:Int}{ys:List (Int×Int)}(h:BeOk M ys):ys.length≤64:=by
 by_cases h0:ys.length=0
 ·omega
 ·have h1:=h.lo (ys.length-1) (by omega)
  have h2:=(h.1 (ys.length-1) (by omega)).1.2
  omega
theorem ziB (v:Int)(w:World)(h:EpOk v):Calls Tryz.prog 27 #[xI v,xI 4] w fun e w'=>∃r,e=.returned (.tuple #[r,xI 0])∧w'.ownsRow w.heap.size 5 1 r (lo v 4).length ((lo v 4).map (Value.int .u8))∧Below w.heap.size w w':=by
 rw[zan]
 exact zfu v 4 w h.1 (by have:=h.2;show v<256*(256*(256*(256*1)));omega) (by decide) (by decide)
theorem zkC {v:Int}{n:Nat}:Byt (lo v n):=fun x hx=>by
 obtain⟨i,_,rfl⟩:=List.mem_map.1 hx
 omega
theorem zhw {n:Nat}(h:n≤64):IntKind.u8.wrap (n:Int)=(n:Int):=by rw[IntKind.wrap_u8];omega
theorem zij (M:Int)(v:Value)(ys:List (Int×Int))(w:World)(hy:Es w v ys)(hl:ys.length≤3000)(h:¬BeOk M ys):
  Calls Tryz.prog 45 #[.agg #[xI M,v]] w fun e w'=>e=.returned (.tuple #[xS,xI 1])∧Below w.heap.size w w':=by
 obtain⟨a,c,rfl⟩:=hy.form
 have CR:=xh (zdc M (.slice a ys.length c) ys false ⟨fun hf=>(by cases hf),fun h'=>absurd h' h⟩ (w.alloc (.cells #[xI M,.slice a ys.length c] 42)) (hy.alloc _) hl)
 have HB:Hid (Below w.heap.size w (w.alloc (.cells #[xI M,.slice a ys.length c] 42))):=xr.alloc xl _
 clear hy
 go_enter Tryz.func45,Tryz.ntmps45
 go_wp2_with fail
 refine CR.out.mono ?_
 rintro e w2 ⟨rfl,hb⟩
 have HB2:=xh (HB.out.trans (hb.mono HB.out.size))
 clear hb
 go_wp2_with fail
 go_ret2
 exact⟨rfl,HB2.out⟩
theorem zid (M:Int)(v:Value)(ys:List (Int×Int))(w:World)(hy:Es w v ys)(h:BeOk M ys):
  Calls Tryz.prog 45 #[.agg #[xI M,v]] w fun e w'=>(∃r,e=.returned (.tuple #[r,xI 0])∧w'.ownsRow w.heap.size 5 1 r (beB M ys).length ((beB M ys).map (Value.int .u8)))∧Below w.heap.size w w':=by
 obtain⟨a,c,rfl⟩:=hy.form
 have hl:=h.len
 obtain⟨W1,hW1⟩:∃W1,W1=w.alloc (.cells #[xI M,.slice a ys.length c] 42):=⟨_,rfl⟩
 have hs1:W1.heap.size=w.heap.size+1:=by rw[hW1];simp
 have HB:Hid (Below w.heap.size w W1):=by rw[hW1];exact xr.alloc xl _
 have HY:Hid (Es W1 (.slice a ys.length c) ys):=by rw[hW1];exact hy.alloc _
 have OX:Hid (OwnB2 W1 w.heap.size M (.slice a ys.length c)):=by rw[hW1];exact zbt w M (.slice a ys.length c) 42 w.heap.size rfl
 have CR:=xh (zdc M (.slice a ys.length c) ys true ⟨fun _=>h,fun _=>rfl⟩ W1 HY.out (by omega))
 have HO:=xh h
 have hwl:=zhw hl
 obtain⟨S,hS⟩:∃S,W1.heap.size=S:=⟨_,rfl⟩
 have HS:=xh hS
 have HS1:Hid (w.heap.size<S):=by show _<_;omega
 obtain⟨⟨x0,x1⟩,xf⟩:=OX.out
 clear hy h hS hs1
 go_enter Tryz.func45,Tryz.ntmps45
 go_upto_region 1 with (fail)
 rw[←hW1]
 clear hW1
 go_wp2_with fail
 refine CR.out.mono ?_
 rintro e w2 ⟨rfl,hb⟩
 rw[HS.out]at hb
 have HC2:=xh hb
 have OX2:=xh (OX.out.low HS1.out hb)
 have HZ2:Hid (S≤w2.heap.size):=by show _≤_;have:=hb.size;have h2:=HS.out;omega
 clear hb x0 x1 xf CR
 obtain⟨⟨x0,x1⟩,xf⟩:=OX2.out
 go_wp2_with fail
 refine(ziB M w2 HO.out.2).mono ?_
 rintro e w3 ⟨r,rfl,hr,hb⟩
 have HC3:=xh (HC2.out.trans (hb.mono HZ2.out))
 have OX3:=xh (OX.out.low HS1.out HC3.out)
 have HR:=xh (zas hr HZ2.out)
 have HZ3:Hid (S≤w3.heap.size):=Nat.le_trans HZ2.out hb.size
 clear hb hr x0 x1 xf HC2 OX2 HZ2
 obtain⟨⟨x0,x1⟩,xf⟩:=OX3.out
 go_wp2_with (at_builtin;go_loud (skip;refine za7 rfl (.tmp 18) (.tmp 23) rfl S (lo M 4) [(ys.length:Int)] (HR.out.alloc _) (zdC w3 (ys.length:Int) (by omega) w3.heap.size rfl) (by rw[zan];simp) (by simp;exact Nat.le_succ_of_le HZ3.out) ?_;intro v4 w4 hown4 hb4 hs4;have HR4:=xh hown4;have HC4:=xh ((HC3.out.alloc HZ3.out _).trans hb4);have HZ4:Hid (S≤w4.heap.size):=(Nat.le_trans (by simp;exact Nat.le_succ_of_le HZ3.out) hs4);clear hown4 hb4 hs4))
 clear x0 x1 xf HR HC3 HZ3 OX3
 go_loopw [4,6] (fun out i wr=>∃(k:Nat) (v5:Value),k≤ys.length∧i=xI k∧v5=out∧wr.ownsRow S 5 1 v5 (lo M 4++[(ys.length:Int)]++((ys.take k).map ecB).flatten).length ((lo M 4++[(ys.length:Int)]++((ys.take k).map ecB).flatten).map (Value.int .u8))∧S≤wr.heap.size∧Below S W1 wr) (fun _ i _=>ys.length-(intOf i).toNat)
 case atStart=>exact⟨0,_,Nat.zero_le _,rfl,rfl,by simpa using HR4.out,HZ4.out,HC4.out⟩
 case round=>
  obtain⟨k,v5,hk,rfl,rfl,hrow,hsz,hbel⟩:=hrel
  have HR5:=xh hrow
  have HZ5:=xh hsz
  have HC5:=xh hbel
  have OX5:=xh (OX.out.low HS1.out hbel)
  have HY5:Hid (Es wr (.slice a ys.length c) ys):=HY.out.below (by rw[HS.out];exact hbel)
  clear hrow hsz hbel HR4 HZ4 HC4
  obtain⟨⟨x0,x1⟩,xf⟩:=OX5.out
  by_cases hlt:k<ys.length
  ·obtain⟨b,off,rfl,hB,p0,p1⟩:=HY5.out.at hlt
   have hE:=HO.out.1 k hlt
   have hst:=zl8 ys k hlt
   obtain⟨⟨y1,y2⟩,hyk⟩:∃y,ys.getD k (0,0)=y:=⟨_,rfl⟩
   rw[hyk]at p0 p1 hst
   have hE1:(0≤y1∧y1<64)∧EpOk y2:=by unfold EcAt at hE;rw[hyk]at hE;exact⟨hE.1,hE.2.2⟩
   have HE:=xh hE1
   have HST:=xh hst
   have hw1:IntKind.u8.wrap y1=y1:=by have:=HE.out.1;rw[IntKind.wrap_u8];omega
   simp only at p0 p1
   clear hE hE1 hst hyk
   go_wp2_with fail
   refine(ziB y2 wr HE.out.2).mono ?_
   rintro e w6 ⟨r6,rfl,hr,hb⟩
   have HC6:=xh (HC5.out.trans (hb.mono HZ5.out))
   have HN6:Hid (∀b7,Value.ownBlock v5=some b7→b7<wr.heap.size):=fun b7 h7=>(HR5.out.lt b7 h7).2
   have HR6:=xh (zae HR5.out hb)
   have HT6:=xh hr
   have HNE:Hid (Value.ownBlock r6=none∨Value.ownBlock r6≠Value.ownBlock v5):=by
    cases hq:Value.ownBlock r6 with
    | none=>exact .inl rfl
    | some q=>exact .inr (fun e=>by have h1:=(hr.lt q hq).1;have h2:=HN6.out q e.symm;omega)
   have HZ6:Hid (S≤w6.heap.size):=Nat.le_trans HZ5.out hb.size
   have OX6:=xh (OX.out.low HS1.out HC6.out)
   have HY6:Hid (Es w6 (.slice (some ⟨b,off,none⟩) ys.length c) ys):=HY.out.below (by rw[HS.out];exact HC6.out)
   have q0:=(hb.cell (p:=⟨b,off+k*2,none⟩) hB).trans p0
   clear hb hr x0 x1 xf p0 p1 HC5 HZ5 HR5 OX5 HY5
   obtain⟨⟨x0,x1⟩,xf⟩:=OX6.out
   have hPl:(lo M 4++[(ys.length:Int)]++((ys.take k).map ecB).flatten).length=5+5*k:=by
    simp only[List.length_append,zan,List.length_cons,List.length_nil,zcw,List.length_take];omega
   obtain⟨P,hP⟩:∃P,lo M 4++[(ys.length:Int)]++((ys.take k).map ecB).flatten=P:=⟨_,rfl⟩
   rw[hP]at HR6 hPl
   have HPL:=xh hPl
   have HP:=xh hP
   clear hPl hP
   go_wp2_with (first
    | (at_builtin;(skip;refine zht rfl (.tmp 42) (.tmp 50) rfl S P [y1] (HR6.out.alloc _) (zdC w6 y1 (by have:=HE.out.1;omega) w6.heap.size rfl) (by have:=HPL.out;rw[this];simp;omega) (by simp;exact Nat.le_succ_of_le HZ6.out) ?_;intro v7 w7 hown7 hb7 hs7 hg7;have HR7:=xh hown7;have HC7:=xh ((HC6.out.alloc HZ6.out _).trans hb7);have HZ7:Hid (S≤w7.heap.size):=(Nat.le_trans (by simp;exact Nat.le_succ_of_le HZ6.out) hs7);have HT7:Hid (Bs w7 r6 (lo y2 4)):=zaq ((HT6.out.alloc _).kept hg7 (HNE.out)) zkC (by rw[zan];decide);clear hown7 hb7 hs7 hg7))
    | (at_builtin;(skip;refine za7 rfl (.tmp 52) (.tmp 53) rfl S (P++[y1]) (lo y2 4) HR7.out HT7.out (by have:=HPL.out;rw[List.length_append,this,zan];simp;omega) HZ7.out ?_;intro v8 w8 hown8 hb8 hs8;have HR8:=xh hown8;have HC8:=xh (HC7.out.trans hb8);have HZ8:=xh (Nat.le_trans HZ7.out hs8);clear hown8 hb8 hs8)))
   go_roundw
   case rel=>exact⟨k+1,_,by omega,by go_num,rfl,by rw[HST.out,←List.append_assoc,HP.out];simpa [ecB]using HR8.out,HZ8.out,HC8.out⟩
   case measure=>simp[intOf];omega
  ·obtain rfl:k=ys.length:=by omega
   go_wp2_with fail
   go_ret2
   refine⟨⟨_,rfl,zas (by have:=HR5.out;rw[List.take_length]at this;exact this) (Nat.le_of_lt HS1.out)⟩,HB.out.trans (HC5.out.mono (Nat.le_of_lt HS1.out))⟩
def ecP (xs:List Int):Nat→Int→List (Int×Int)→Int ⊕ (List (Int×Int)×Int)
 | 0,p,acc=>.inr (acc,p)
 | n+1,p,acc=>
  if(getS xs p 1).2.2≠0 then .inl (getS xs p 1).2.2
  else if(getS xs (getS xs p 1).2.1 4).2.2≠0 then .inl (getS xs (getS xs p 1).2.1 4).2.2
  else ecP xs n (getS xs (getS xs p 1).2.1 4).2.1 (acc++[((getS xs p 1).1,(getS xs (getS xs p 1).2.1 4).1)])
def bePF (xs:List Int)(at':Int):Int ⊕ (Int×List (Int×Int)×Int):=
 if(getS xs at' 4).2.2≠0 then .inl (getS xs at' 4).2.2
 else if(getS xs (getS xs at' 4).2.1 1).2.2≠0 then .inl (getS xs (getS xs at' 4).2.1 1).2.2
 else match ecP xs (getS xs (getS xs at' 4).2.1 1).1.toNat (getS xs (getS xs at' 4).2.1 1).2.1 []with
  | .inl e=>.inl e
  | .inr (ys,to)=>if BeOk (getS xs at' 4).1 ys then .inr ((getS xs at' 4).1,ys,to)else .inl 4
def PRet (w:World)(r:Int ⊕ (Int×List (Int×Int)×Int))(u:Value)(t k:Int)(w':World):Prop:=
 match r with
 | .inl e=>u=.agg #[xI 0,xS]∧t=0∧k=e
 | .inr (M,ys,to)=>t=to∧k=0∧∃u',u=.agg #[xI M,u']∧OwE w' w.heap.size u' ys
theorem zds {xs:List Int}(hx:∀x∈xs,0≤x∧x<256)(p:Int):0≤(getS xs p 1).1∧(getS xs p 1).1≤255:=by
 unfold getS
 split
 ·simp
 ·split
  ·simp
  ·have h1:=zfK hx p.toNat 1
   have h2:segN xs p.toNat 1<256*1:=h1.2
   show 0≤segN xs p.toNat 1∧segN xs p.toNat 1≤255
   omega
theorem zgW (v:Value)(xs:List Int)(at':Int)(w:World)(hv:Bs w v xs):
  Calls Tryz.prog 58 #[v,xI at'] w fun e w'=>(∃u t k,e=.returned (.tuple #[u,xI t,xI k])∧PRet w (bePF xs at') u t k w')∧Below w.heap.size w w':=by
 obtain⟨W1,hW1⟩:∃W1,W1=w.alloc (.cells #[xI 0,xS] 42):=⟨_,rfl⟩
 have HB:Hid (Below w.heap.size w W1):=by rw[hW1];exact xr.alloc xl _
 have OR:Hid (OwnB2 W1 w.heap.size 0 xS):=by rw[hW1];exact zbt w 0 xS 42 w.heap.size rfl
 have HV:=xh (zaa hv HB.out)
 have hs1:W1.heap.size=w.heap.size+1:=by rw[hW1];simp
 have HX:=xh hv.1
 obtain⟨⟨g1,g2,g3⟩,hg⟩:∃g,getS xs at' 4=g:=⟨_,rfl⟩
 have c1:=xh (zaF v xs at' 4 W1 HV.out)
 rw[hg]at c1
 simp only[tri]at c1
 obtain⟨⟨m1,m2,m3⟩,hm⟩:∃m,getS xs g2 1=m:=⟨_,rfl⟩
 have c2:=xh (zaF v xs g2 1 W1 HV.out)
 rw[hm]at c2
 simp only[tri]at c2
 have HM:=zds HX.out g2
 rw[hm]at HM
 have HG:=xh hg
 have HMM:=xh hm
 have HMB:=xh HM
 clear hv hg hm HM
 obtain⟨⟨r0,r1⟩,rf⟩:=OR.out
 go_enter Tryz.func58,Tryz.ntmps58
 go_upto_region 1 with (fail)
 rw[←hW1]
 have HS1:=xh hs1
 clear hW1 hs1
 go_wp2_with fail
 refine c1.out.mono ?_
 rintro e w1 ⟨rfl,rfl⟩
 by_cases h3:g3=0
 ·have h3':(g3 !=0)=false:=by simpa using h3
  have H3:=xh h3
  clear h3
  go_wp2_with fail
  refine c2.out.mono ?_
  rintro e w1 ⟨rfl,rfl⟩
  by_cases h4:m3=0
  ·have h4':(m3 !=0)=false:=by simpa using h4
   have H4:=xh h4
   clear h4
   have hV0:∃V0,V0=W1.alloc (.cells #[xI g1,xS] 42):=⟨_,rfl⟩
   obtain⟨V0,hV0⟩:=hV0
   obtain⟨g0,hg0⟩:∃g0,W1.heap.size=g0:=⟨_,rfl⟩
   have HG0:=xh hg0
   have HAL:Hid (Below g0 W1 V0):=by rw[←hg0,hV0];exact(Below.refl _ W1).alloc xl _
   have HOB:=xh (show OwnB2 V0 g0 g1 xS by rw[hV0];exact zbt W1 g1 xS 42 g0 hg0.symm)
   have HGS:Hid (V0.heap.size=g0+1):=by show _=_;rw[←hg0,hV0];simp
   have HLT:Hid (w.heap.size<g0):=by show _<_;have:=HS1.out;omega
   have hm0:0≤m1:=HMB.out.1
   have hm2:m1≤255:=HMB.out.2
   go_wp2_with fail
   rw[←hV0]
   clear hV0 hg0 r0 r1 rf c2 c1
   go_loopw [1,11] (fun p i wr=>∃(k:Nat) (q:Int) (acc:List (Int×Int)) (u:Value),(k:Int)≤m1∧i=xI k∧p=xI q∧OwnB2 wr g0 g1 u∧OwE wr (g0+1) u acc∧acc.length≤k∧ecP xs (m1.toNat-k) q acc=ecP xs m1.toNat m2 []∧g0+1≤wr.heap.size∧Below g0 W1 wr) (fun _ i _=>m1.toNat-(intOf i).toNat)
   case atStart=>exact⟨0,m2,[],_,hm0,rfl,rfl,HOB.out,zdy _ _,Nat.le_refl _,rfl,Nat.le_of_eq HGS.out.symm,HAL.out⟩
   case round=>
    obtain⟨k,q,acc,u,hk,rfl,rfl,hob,hrow,hal,hec,hsz,hbel⟩:=hrel
    obtain⟨a3,c3,rfl⟩:=hrow.form
    have HRR:=xh (OR.out.low HLT.out hbel)
    have HVW:Hid (Bs wr v xs):=zaa HV.out (by rw[HG0.out];exact hbel)
    have HBW:Hid (Below w.heap.size w wr):=HB.out.trans (hbel.mono (Nat.le_of_lt HLT.out))
    have HW:=xh hbel
    have OO:=xh hob
    have OW:=xh hrow
    have HAC:=xh hal
    have HEC:=xh hec
    have HSW:=xh hsz
    clear hbel hob hrow hal hec hsz
    obtain⟨⟨z0,z1⟩,zf⟩:=HRR.out
    obtain⟨⟨o0,o1⟩,of⟩:=OO.out
    by_cases hlt:(k:Int)<m1
    ·obtain⟨⟨p1,p2,p3⟩,hp⟩:∃p,getS xs q 1=p:=⟨_,rfl⟩
     have d1:=xh (zaF v xs q 1 wr HVW.out)
     rw[hp]at d1
     simp only[tri]at d1
     obtain⟨⟨n1,n2,n3⟩,hn⟩:∃n,getS xs p2 4=n:=⟨_,rfl⟩
     have d2:=xh (zaF v xs p2 4 wr HVW.out)
     rw[hn]at d2
     simp only[tri]at d2
     have HST:Hid (ecP xs (m1.toNat-k) q acc=if p3≠0 then .inl p3 else if n3≠0 then .inl n3 else ecP xs (m1.toNat-(k+1)) n2 (acc++[(p1,n1)])):=by
      show _=_
      rw[show m1.toNat-k=(m1.toNat-(k+1))+1 by omega]
      rw[ecP]
      simp only[hp,hn]
     clear hp hn
     go_wp2_with fail
     refine d1.out.mono ?_
     rintro e w5 ⟨rfl,rfl⟩
     by_cases h5:p3=0
     ·have h5':(p3 !=0)=false:=by simpa using h5
      have H5:=xh h5
      clear h5
      go_wp2_with fail
      refine d2.out.mono ?_
      rintro e w5 ⟨rfl,rfl⟩
      by_cases h6:n3=0
      ·have h6':(n3 !=0)=false:=by simpa using h6
       have H6:=xh h6
       clear h6
       go_wp2_with (at_builtin;refine zjb rfl (.tmp 68) (.tmp 72) rfl wr p1 n1 rfl (g0+1) (.slice a3 acc.length c3) acc rfl rfl OW.out (by have:=HAC.out;omega) HSW.out ?_;intro gh ch wh hrow2 hbel2;have OW2:=xh hrow2;have HB2:=xh hbel2;have O1:=OO.out.low (Nat.lt_succ_self _) hbel2;have OY:=xh O1;obtain⟨⟨q0,q1⟩,qf⟩:=O1;clear hrow2 hbel2)
       go_roundw
       case rel=>
        refine⟨k+1,n2,acc++[(p1,n1)],_,by omega,by go_num,rfl,OY.out.set1 _,by simpa using OW2.out.set (Nat.lt_succ_self g0) 1,by simp;exact HAC.out,?_,by simp;exact Nat.le_trans HSW.out HB2.out.size,(HW.out.trans (HB2.out.mono (Nat.le_succ _))).setCell (p:=xQ g0 1) xl _⟩
        rw[←HEC.out,HST.out,if_neg (by rw[H5.out];simp),if_neg (by rw[H6.out];simp)]
       case measure=>simp[intOf];omega
      ·have h6':(n3 !=0)=true:=by simpa using h6
       have H6:=xh h6
       clear h6
       go_wp2_with fail
       have hs:=(HRR.out.set 0 xS).1
       have hbs:=zbb (b:=w.heap.size) HBW.out xl 0 xS
       generalize (xC wr w.heap.size #[xI 0,xS]:World)=W5 at*
       obtain⟨s0_,s1_⟩:=hs
       exact bodyPost_ret (v:=.tuple #[.agg #[xI 0,xS],xI 0,xI n3]) (by simp[results,Tryz.results58,go_sem,s0_,s1_]) rfl ⟨⟨_,_,_,rfl,by unfold bePF;simp only[HG.out,HMM.out];rw[if_neg (by rw[H3.out];simp),if_neg (by rw[H4.out];simp),←HEC.out,HST.out,if_neg (by rw[H5.out];simp),if_pos H6.out];exact⟨rfl,rfl,rfl⟩⟩,hbs⟩
     ·have h5':(p3 !=0)=true:=by simpa using h5
      have H5:=xh h5
      clear h5
      go_wp2_with fail
      have hs:=(HRR.out.set 0 xS).1
      have hbs:=zbb (b:=w.heap.size) HBW.out xl 0 xS
      generalize (xC wr w.heap.size #[xI 0,xS]:World)=W5 at*
      obtain⟨s0_,s1_⟩:=hs
      exact bodyPost_ret (v:=.tuple #[.agg #[xI 0,xS],xI 0,xI p3]) (by simp[results,Tryz.results58,go_sem,s0_,s1_]) rfl ⟨⟨_,_,_,rfl,by unfold bePF;simp only[HG.out,HMM.out];rw[if_neg (by rw[H3.out];simp),if_neg (by rw[H4.out];simp),←HEC.out,HST.out,if_pos H5.out];exact⟨rfl,rfl,rfl⟩⟩,hbs⟩
    ·have hkm:m1.toNat-k=0:=by omega
     have HDN:Hid (ecP xs m1.toNat m2 []=.inr (acc,q)):=by show _=_;rw[←HEC.out,hkm];rfl
     have HAL2:Hid (acc.length≤3000):=by have:=HAC.out;show _≤_;omega
     clear hkm
     obtain⟨qq,hq⟩:∃qq:Bool,qq=true↔BeOk g1 acc:=⟨decide (BeOk g1 acc),decide_eq_true_iff⟩
     have HQ:=xh hq
     clear hq
     go_wp2_with fail
     refine(zdc g1 _ acc qq HQ.out _ (zeF OW.out).1 HAL2.out).mono ?_
     rintro e w3 ⟨rfl,hb3⟩
     clear z0 z1 zf o0 o1 of
     have HB3:=xh (HBW.out.trans (hb3.mono HBW.out.size))
     have OO3:=xh (OO.out.below hb3)
     have OR3:=xh (HRR.out.below hb3)
     have OW3:Hid (OwE w3 (g0+1) (.slice a3 acc.length c3) acc):=zae OW.out hb3
     clear hb3
     obtain⟨⟨z0,z1⟩,zf⟩:=OR3.out
     obtain⟨⟨o0,o1⟩,of⟩:=OO3.out
     cases qq with
     | false=>
      have HN:Hid (¬BeOk g1 acc):=fun h=>by cases HQ.out.2 h
      go_wp2_with fail
      have hs:=(OR3.out.set 0 xS).1
      have hbs:=zbb (b:=w.heap.size) HB3.out xl 0 xS
      generalize (xC w3 w.heap.size #[xI 0,xS]:World)=W5 at*
      obtain⟨s0_,s1_⟩:=hs
      exact bodyPost_ret (v:=.tuple #[.agg #[xI 0,xS],xI 0,xI 4]) (by simp[results,Tryz.results58,go_sem,s0_,s1_]) rfl ⟨⟨_,_,_,rfl,by unfold bePF;simp only[HG.out,HMM.out];rw[if_neg (by rw[H3.out];simp),if_neg (by rw[H4.out];simp),HDN.out];simp only;rw[if_neg HN.out];exact⟨rfl,rfl,rfl⟩⟩,hbs⟩
     | true=>
      have HP:Hid (BeOk g1 acc):=HQ.out.1 rfl
      go_wp2_with fail
      have hs:=(OR3.out.set g1 (.slice a3 acc.length c3)).1
      have hbs:=zbb (b:=w.heap.size) HB3.out xl g1 (.slice a3 acc.length c3)
      have hos:OwE _ (g0+1) _ acc:=zka (b:=w.heap.size) OW3.out (Nat.lt_succ_of_lt HLT.out) g1 (.slice a3 acc.length c3)
      generalize (xC w3 w.heap.size #[xI g1,.slice a3 acc.length c3]:World)=W5 at*
      obtain⟨s0_,s1_⟩:=hs
      exact bodyPost_ret (v:=.tuple #[.agg #[xI g1,.slice a3 acc.length c3],xI q,xI 0]) (by simp[results,Tryz.results58,go_sem,s0_,s1_]) rfl ⟨⟨_,_,_,rfl,by unfold bePF;simp only[HG.out,HMM.out];rw[if_neg (by rw[H3.out];simp),if_neg (by rw[H4.out];simp),HDN.out];simp only;rw[if_pos HP.out];exact⟨rfl,rfl,_,rfl,hos.mono (by have:=HLT.out;omega)⟩⟩,hbs⟩
  ·have h4':(m3 !=0)=true:=by simpa using h4
   have H4:=xh h4
   clear h4
   go_wp2_with fail
   have hs:=(OR.out.set 0 xS).1
   have hbs:=zbb (b:=w.heap.size) HB.out xl 0 xS
   generalize (xC W1 w.heap.size #[xI 0,xS]:World)=W5 at*
   obtain⟨s0_,s1_⟩:=hs
   exact bodyPost_ret (v:=.tuple #[.agg #[xI 0,xS],xI 0,xI m3]) (by simp[results,Tryz.results58,go_sem,s0_,s1_]) rfl ⟨⟨_,_,_,rfl,by unfold bePF;simp only[HG.out,HMM.out];rw[if_neg (by rw[H3.out];simp),if_pos H4.out];exact⟨rfl,rfl,rfl⟩⟩,hbs⟩
 ·have h3':(g3 !=0)=true:=by simpa using h3
  have H3:=xh h3
  clear h3
  go_wp2_with fail
  have hs:=(OR.out.set 0 xS).1
  have hbs:=zbb (b:=w.heap.size) HB.out xl 0 xS
  generalize (xC W1 w.heap.size #[xI 0,xS]:World)=W5 at*
  obtain⟨s0_,s1_⟩:=hs
  exact bodyPost_ret (v:=.tuple #[.agg #[xI 0,xS],xI 0,xI g3]) (by simp[results,Tryz.results58,go_sem,s0_,s1_]) rfl ⟨⟨_,_,_,rfl,by unfold bePF;simp only[HG.out];rw[if_pos H3.out];exact⟨rfl,rfl,rfl⟩⟩,hbs⟩
def szA (j:Nat):Int:=[1,4,2,2].getD j 0
def rdP (xs:List Int)(q:Int):Nat→Int
 | 0=>q
 | j+1=>(getS xs (rdP xs q j) (szA j)).2.1
def rdV (xs:List Int)(q:Int)(j:Nat):Int:=(getS xs (rdP xs q j) (szA j)).1
def rdE (xs:List Int)(q:Int)(j:Nat):Int:=(getS xs (rdP xs q j) (szA j)).2.2
def akP (xs:List Int):Nat→Int→List (Int×Int×Int×Int)→Int ⊕ (List (Int×Int×Int×Int)×Int)
 | 0,p,acc=>.inr (acc,p)
 | n+1,p,acc=>
  if rdE xs p 0≠0 then .inl (rdE xs p 0)else if rdE xs p 1≠0 then .inl (rdE xs p 1)else if rdE xs p 2≠0 then .inl (rdE xs p 2)else if rdE xs p 3≠0 then .inl (rdE xs p 3)
  else akP xs n (rdP xs p 4) (acc++[(rdV xs p 0,rdV xs p 1,rdV xs p 2,rdV xs p 3)])
theorem znh {xs:List Int}{n:Nat}{p:Int}{acc:List (Int×Int×Int×Int)}{j:Nat}(hj:j<4)(h0:∀i,i<j→rdE xs p i=0)(h:rdE xs p j≠0):akP xs (n+1) p acc=.inl (rdE xs p j):=by
 have:j=0∨j=1∨j=2∨j=3:=by omega
 rcases this with rfl|rfl|rfl|rfl
 ·rw[akP,if_pos h]
 ·rw[akP,if_neg (not_not_intro (h0 0 (by decide))),if_pos h]
 ·rw[akP,if_neg (not_not_intro (h0 0 (by decide))),if_neg (not_not_intro (h0 1 (by decide))),if_pos h]
 ·rw[akP,if_neg (not_not_intro (h0 0 (by decide))),if_neg (not_not_intro (h0 1 (by decide))),if_neg (not_not_intro (h0 2 (by decide))),if_pos h]
theorem zmJ {xs:List Int}{n:Nat}{p:Int}{acc:List (Int×Int×Int×Int)}(h0:∀i,i<4→rdE xs p i=0):akP xs (n+1) p acc=akP xs n (rdP xs p 4) (acc++[(rdV xs p 0,rdV xs p 1,rdV xs p 2,rdV xs p 3)]):=by
 rw[akP,if_neg (not_not_intro (h0 0 (by decide))),if_neg (not_not_intro (h0 1 (by decide))),if_neg (not_not_intro (h0 2 (by decide))),if_neg (not_not_intro (h0 3 (by decide)))]
def acPF (xs:List Int)(at':Int):Int ⊕ (List (Int×Int×Int×Int)×Int):=
 if(getS xs at' 1).2.2≠0 then .inl (getS xs at' 1).2.2
 else match akP xs (getS xs at' 1).1.toNat (getS xs at' 1).2.1 []with
  | .inl e=>.inl e
  | .inr (ys,to)=>if zbq ys then .inr (ys,to)else .inl 4
def zmm (w:World)(r:Int ⊕ (List (Int×Int×Int×Int)×Int))(u:Value)(t k:Int)(w':World):Prop:=
 match r with
 | .inl e=>u=xS∧t=0∧k=e
 | .inr (ys,to)=>t=to∧k=0∧w'.ownsRow w.heap.size 120 4 u ys.length (aflat ys)
def akB (y:Int×Int×Int×Int):List Int:=y.1::(lo y.2.1 4++(lo y.2.2.1 2++lo y.2.2.2 2))
def acB (ys:List (Int×Int×Int×Int)):List Int:=[(ys.length:Int)]++(ys.map akB).flatten
theorem zkr (y:Int×Int×Int×Int):(akB y).length=9:=by simp[akB,zan]
theorem zbY (ys:List (Int×Int×Int×Int)):((ys.map akB).flatten).length=9*ys.length:=by
 induction ys with
 | nil=>rfl
 | cons y ys ih=>simp only[List.map_cons,List.flatten_cons,List.length_append,zkr,ih,List.length_cons];omega
theorem zhM (ys:List (Int×Int×Int×Int))(k:Nat)(h:k<ys.length):((ys.take (k+1)).map akB).flatten=((ys.take k).map akB).flatten++akB (ys.getD k (0,0,0,0)):=by
 rw[List.take_succ_eq_append_getElem h,List.map_append,List.flatten_append];simp[List.getD,h]
theorem zpW (v:Int)(w:World)(h:EpOk v):Calls Tryz.prog 27 #[xI v,xI 4] w fun e w'=>∃r,e=.returned (.tuple #[r,xI 0])∧w'.ownsRow w.heap.size 5 1 r 4 ((lo v 4).map (Value.int .u8))∧Below w.heap.size w w':=by
 exact zfu v 4 w h.1 (by have:=h.2;show v<256*(256*(256*(256*1)));omega) (by decide) (by decide)
theorem zpk (v:Int)(w:World)(h:0≤v∧v≤65535):Calls Tryz.prog 27 #[xI v,xI 2] w fun e w'=>∃r,e=.returned (.tuple #[r,xI 0])∧w'.ownsRow w.heap.size 5 1 r 2 ((lo v 2).map (Value.int .u8))∧Below w.heap.size w w':=by
 exact zfu v 2 w h.1 (by have:=h.2;show v<256*(256*1);omega) (by decide) (by decide)
theorem zdG {v:Int}{n:Nat}:∀x∈lo v n,0≤x∧x<256:=fun x hx=>by
 obtain⟨i,_,rfl⟩:=List.mem_map.1 hx
 omega
theorem zh3 (v:Value)(ys:List (Int×Int×Int×Int))(w:World)(hy:As w v ys)(hl:ys.length≤3000)(h:¬zbq ys):
  Calls Tryz.prog 47 #[v] w fun e w'=>e=.returned (.tuple #[xS,xI 1])∧Below w.heap.size w w':=by
 have CR:=xh (zc7 v ys false ⟨fun hf=>(by cases hf),fun h'=>absurd h' h⟩ w hy hl)
 go_enter Tryz.func47,Tryz.ntmps47
 go_wp2_with fail
 refine CR.out.mono ?_
 rintro e w2 ⟨rfl,hb⟩
 have HB2:=xh hb
 clear hb
 go_wp2_with fail
 go_ret2
 exact⟨rfl,HB2.out⟩
theorem zil (v:Value)(ys:List (Int×Int×Int×Int))(w:World)(hy:As w v ys)(h:zbq ys):
  Calls Tryz.prog 47 #[v] w fun e w'=>(∃r,e=.returned (.tuple #[r,xI 0])∧w'.ownsRow w.heap.size 5 1 r (acB ys).length ((acB ys).map (Value.int .u8)))∧Below w.heap.size w w':=by
 obtain⟨a,c,rfl⟩:=hy.form
 have hl:=h.2.2
 have HY:=xh hy
 have CR:=xh (zc7 (.slice a ys.length c) ys true ⟨fun _=>h,fun _=>rfl⟩ w hy (by omega))
 have HO:=xh h
 have hwl:=zhw hl
 clear hy h
 go_enter Tryz.func47,Tryz.ntmps47
 go_wp2_with fail
 refine CR.out.mono ?_
 rintro e w2 ⟨rfl,hb⟩
 have HC2:=xh hb
 have HR4:Hid ((w2.alloc (.cells #[.int .u8 (ys.length:Int)] 5)).ownsRow w.heap.size 5 1 (.slice (some (w2.heap.size,0)) 1 1) [(ys.length:Int)].length ([(ys.length:Int)].map (Value.int .u8))):=zck w2 w.heap.size (ys.length:Int) hb.size w2.heap.size rfl
 have HC4:Hid (Below w.heap.size w (w2.alloc (.cells #[.int .u8 (ys.length:Int)] 5))):=hb.alloc hb.size _
 clear hb CR
 go_wp2_with fail
 go_loopw [4,5] (fun out i wr=>∃(k:Nat) (v5:Value),k≤ys.length∧i=xI k∧v5=out∧wr.ownsRow w.heap.size 5 1 v5 ([(ys.length:Int)]++((ys.take k).map akB).flatten).length (([(ys.length:Int)]++((ys.take k).map akB).flatten).map (Value.int .u8))∧Below w.heap.size w wr) (fun _ i _=>ys.length-(intOf i).toNat)
 case atStart=>exact⟨0,_,Nat.zero_le _,rfl,rfl,by simpa using HR4.out,HC4.out⟩
 case round=>
  obtain⟨k,v5,hk,rfl,rfl,hrow,hbel⟩:=hrel
  have HR5:=xh hrow
  have HC5:=xh hbel
  have HZ5:Hid (w.heap.size≤wr.heap.size):=hbel.size
  have HY5:Hid (As wr (.slice a ys.length c) ys):=HY.out.below hbel
  clear hrow hbel HR4 HC4
  by_cases hlt:k<ys.length
  ·obtain⟨b,off,rfl,hB,p0⟩:=HY5.out.at hlt
   have hE:=HO.out.1 k hlt
   have hst:=zhM ys k hlt
   obtain⟨⟨y1,y2,y3,y4⟩,hyk⟩:∃y,ys.getD k (0,0,0,0)=y:=⟨_,rfl⟩
   rw[hyk]at p0 hst
   have hE1:zcr (y1,y2,y3,y4):=by rw[←hyk];exact hE.1
   have HE:=xh hE1
   have HST:=xh hst
   have hw1:IntKind.u8.wrap y1=y1:=by have h9:0≤y1∧y1<64:=HE.out.1;rw[IntKind.wrap_u8];omega
   have P0:=xh p0
   clear hE hE1 hst hyk p0
   obtain⟨p0,p1,p2,p3⟩:=P0.out
   simp only at p0 p1 p2 p3
   go_wp2_with fail
   refine(zpW y2 wr HE.out.2.1).mono ?_
   rintro e w6 ⟨r6,rfl,hr6,hb6⟩
   obtain⟨a6,c6,rfl⟩:=zap hr6
   have HT6:=xh hr6
   have HB6:=xh hb6
   have P6:=xh (P0.out.below hb6)
   clear hr6 hb6 p0 p1 p2 p3
   obtain⟨p0,p1,p2,p3⟩:=P6.out
   simp only at p0 p1 p2 p3
   go_wp2_with fail
   refine(zpk y3 w6 HE.out.2.2.1).mono ?_
   rintro e w7 ⟨r7,rfl,hr7,hb7⟩
   obtain⟨a7,c7,rfl⟩:=zap hr7
   have HT6':=xh (zae HT6.out hb7)
   have HT7:=xh hr7
   have HB7:Hid (Below wr.heap.size wr w7):=HB6.out.trans (hb7.mono HB6.out.size)
   have P7:=xh (P0.out.below HB7.out)
   clear hr7 hb7 p0 p1 p2 p3
   obtain⟨p0,p1,p2,p3⟩:=P7.out
   simp only at p0 p1 p2 p3
   go_wp2_with fail
   refine(zpk y4 w7 HE.out.2.2.2).mono ?_
   rintro e w8 ⟨r8,rfl,hr8,hb8⟩
   obtain⟨a8,c8,rfl⟩:=zap hr8
   have G6:=xh (zas (zae HT6'.out hb8) (Nat.le_refl wr.heap.size))
   have G7:=xh (zas (zae HT7.out hb8) HB6.out.size)
   have G8:=xh (zas hr8 HB7.out.size)
   have HB8:Hid (Below wr.heap.size wr w8):=HB7.out.trans (hb8.mono HB7.out.size)
   have P8:=xh (P0.out.below HB8.out)
   have HR8:=xh (zae HR5.out HB8.out)
   have HN:Hid (∀b7,Value.ownBlock v5=some b7→b7<wr.heap.size):=fun b7 h7=>(HR5.out.lt b7 h7).2
   have HNE:Hid (∀(r:Value) (n:Nat) (xs:List Value),w8.ownsRow wr.heap.size 5 1 r n xs→(Value.ownBlock r=none∨Value.ownBlock r≠Value.ownBlock v5)):=fun r n xs hr=>by
    cases hq:Value.ownBlock r with
    | none=>exact .inl rfl
    | some q=>exact .inr (fun e=>by have h1:=(hr.lt q hq).1;have h2:=HN.out q e.symm;omega)
   have HC8:Hid (Below w.heap.size w w8):=HC5.out.trans (HB8.out.mono HZ5.out)
   have HZ8:Hid (w.heap.size≤w8.heap.size):=HC8.out.size
   clear hr8 hb8 p0 p1 p2 p3 HT6 HT6' HT7 HB6 HB7 P0 P6 P7 HC5 HR5 HY5
   obtain⟨p0,p1,p2,p3⟩:=P8.out
   simp only at p0 p1 p2 p3
   have hPl:([(ys.length:Int)]++((ys.take k).map akB).flatten).length=1+9*k:=by
    simp only[List.length_append,List.length_cons,List.length_nil,zbY,List.length_take];omega
   obtain⟨P,hP⟩:∃P,[(ys.length:Int)]++((ys.take k).map akB).flatten=P:=⟨_,rfl⟩
   rw[hP]at HR8 hPl
   have HPL:=xh hPl
   have HP:=xh hP
   clear hPl hP
   go_wp2_with (first
    | (at_builtin;(skip;refine zht rfl (.tmp 52) (.tmp 59) rfl w.heap.size P [y1] (HR8.out.alloc _) (zdC w8 y1 (by have h9:0≤y1∧y1<64:=HE.out.1;omega) w8.heap.size rfl) (by have:=HPL.out;rw[this];simp;omega) (by simp;exact Nat.le_succ_of_le HZ8.out) ?_;intro v9 w9 hown9 hb9 hs9 hg9;have HR9:=xh hown9;have HC9:=xh ((HC8.out.alloc HZ8.out _).trans hb9);have HT6:Hid (Bs w9 (.slice a6 4 c6) (lo y2 4)):=zaq ((G6.out.alloc _).kept hg9 (HNE.out _ _ _ G6.out)) zdG (by rw[zan];decide);have HT7:Hid (Bs w9 (.slice a7 2 c7) (lo y3 2)):=zaq ((G7.out.alloc _).kept hg9 (HNE.out _ _ _ G7.out)) zdG (by rw[zan];decide);have HT8:Hid (Bs w9 (.slice a8 2 c8) (lo y4 2)):=zaq ((G8.out.alloc _).kept hg9 (HNE.out _ _ _ G8.out)) zdG (by rw[zan];decide);have HZ9:Hid (w.heap.size≤w9.heap.size):=HC9.out.size;clear hown9 hb9 hs9 hg9))
    | (go_at_call 17;go_loud (skip;refine(zpK HT6.out HT7.out HT8.out _ (by rw[zan,zan,zan];decide)).mono ?_;rintro e wa ⟨ra,rfl,hra,hya,hba⟩;have HTa:Hid (Bs wa ra (lo y2 4++(lo y3 2++lo y4 2))):=zaq hra hya (by simp[zan]);have HBa:Hid (Below w9.heap.size w9 wa):=((Below.refl _ w9).alloc xl _).trans (hba.mono (by simp));have HRa:=xh (zae HR9.out HBa.out);have HCa:Hid (Below w.heap.size w wa):=HC9.out.trans (HBa.out.mono HZ9.out);have HZa:Hid (w.heap.size≤wa.heap.size):=HCa.out.size;clear hra hya hba))
    | (at_builtin;(skip;refine za7 rfl (.tmp 61) (.tmp 66) rfl w.heap.size (P++[y1]) (lo y2 4++(lo y3 2++lo y4 2)) HRa.out HTa.out (by have:=HPL.out;rw[List.length_append,this,List.length_append,List.length_append,zan,zan,zan];simp;omega) HZa.out ?_;intro vb wb hownb hbb hsb;have HRb:=xh hownb;have HCb:=xh (HCa.out.trans hbb);clear hownb hbb hsb)))
   go_roundw
   case rel=>exact⟨k+1,_,by omega,by go_num,rfl,by rw[HST.out,←List.append_assoc,HP.out];simpa [akB]using HRb.out,HCb.out⟩
   case measure=>simp[intOf];omega
  ·obtain rfl:k=ys.length:=by omega
   go_wp2_with fail
   go_ret2
   exact⟨⟨_,rfl,by have:=HR5.out;rw[List.take_length]at this;exact this⟩,HC5.out⟩
end Go.Proofs.YtjghebcnmoojmaaGreat
