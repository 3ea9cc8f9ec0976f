/- Numbers as bytes, in a row of the call's own. Bytes as rows: A beacon as bytes: Bytes as rows of the call's own, and which block an append hands back; Numbers p -/
import Derived.Test.YtjghebcnmoojmaaGreatV11
import Derived.Test.YtjghebcnmoojmaaGreatV24
import Derived.Test.YtjghebcnmoojmaaGreatV25
import Derived.Lib.AppendStr
set_option maxRecDepth 100000
set_option maxHeartbeats 32000000
namespace Go.Proofs.YtjghebcnmoojmaaGreat
open Go.RowKit MX
theorem zpn (v:Int)(n:Nat):(lo v n).map (Value.int .u8)=row (fun i=>v/256^(n-1-i)%256) n:=by
 unfold lo row
 rw[List.map_map]
 rfl
theorem zkO (v:Int)(n:Nat)(w:World)(_:0≤v)(h1:1≤n)(h8:n≤8):
  Calls Tryz.prog 65 #[.int .u64 v,xI n] w fun e w'=>∃r,e=.returned r∧w'.ownsRow w.heap.size 5 1 r n ((lo v n).map (Value.int .u8))∧Below w.heap.size w w':=by
 obtain⟨i0,hi,hz0,hz1,hz2⟩:=info_parts Tryz.info5
 go_enter Tryz.func65,Tryz.ntmps65
 go_wp2_with (first
  | (go_at_call 83;refine(zfS _ 0 v _ (by simp) (by simp)).mono ?_;rintro e w' ⟨rfl,rfl⟩)
  | (at_make;go_must (refine wpList_make_full _ rfl _ _ 26 rfl (w.heap.size+1) 5 i0 (.int .u8 0) 1 Tryz.underlying26 hi hz0 hz1 _ _ _ _ n rfl rfl rfl rfl (by rw[hz2];omega) (by unfold maxLen;omega) (by simp) ?_);intro w1 hown hgrow))
 rw[zeg]at hown
 have hbel:Below w.heap.size w w1:=((xr.alloc xl _).grown hgrow (by simp) (by simp))
 have hat:w1.cell? (w.heap.size,0)=some (.int .u64 v):=hgrow.cell (by simp) (by simp)
 clear hgrow
 go_loopw [7,14] (fun _ i wr=>∃k:Nat,k≤n∧i=xI k∧wr.ownsRow (w.heap.size+1) 5 1 (.slice (some (w.heap.size+1,0)) n n) n (row (upTo (fun i=>v/256^(n-1-i)%256) k) n)∧Below w.heap.size w wr∧wr.cell? (w.heap.size,0)=some (.int .u64 v)) (fun _ i _=>n-(intOf i).toNat)
 case atStart=>exact⟨0,Nat.zero_le _,rfl,by rw[zgf];simpa using hown,hbel,hat⟩
 case round=>
  clear hbel hat hown
  obtain⟨k,hk,rfl,hown,hbel,hat⟩:=hrel
  by_cases hlt:k<n
  ·have hcell:=hown.cellAt k (by omega)
   rw[zcy _ _ _ hlt]at hcell
   have hfz:=hown.frozenAt k
   have hst:=xh (hown.stored k)
   have hb2:=xh hbel
   clear hown hbel
   go_wp2_with (go_at_call 84;refine(zhe _ v _ hat).mono ?_;rintro e w' ⟨rfl,rfl⟩)
   go_roundw
   case rel=>
    refine⟨k+1,by omega,by go_num,?_,hb2.out.setCell (by simp) _,by rw[World.cell?_setCell_other _ _ _ _ (by simp)];exact hat⟩
    rw[←zmq,zhj]
    exact(hst.out _).1
   case measure=>simp[intOf];omega
  ·obtain rfl:k=n:=by omega
   have ho:=xh hown
   have hb2:=xh hbel
   clear hown hbel hat
   go_wp2
   go_ret
   refine⟨_,rfl,?_,hb2.out⟩
   have hr:=ho.out
   rw[zh1]at hr
   refine zbs ?_ (Nat.le_succ _)
   rw[zpn v _]
   exact hr
theorem zdP (v:Int)(n:Nat)(w:World)(hv:0≤v∧v<zao n)(h1:1≤n)(h7:n≤7):
  Calls Tryz.prog 42 #[xI v,xI n] w fun e w'=>∃r,e=.returned (.tuple #[r,xI 0])∧w'.ownsRow w.heap.size 5 1 r n ((lo v n).map (Value.int .u8))∧Below w.heap.size w w':=by
 obtain⟨v0,c2⟩:=hv
 have n1:(1:Int)≤(n:Int):=by omega
 have n7:(n:Int)≤7:=by omega
 have n8:n≤8:=by omega
 rw[←zgX n (by omega)]at c2
 have hv63:v<9223372036854775808:=by
  have:wrap64 ((2:Int)^(8*n))<9223372036854775808:=by unfold wrap64;omega
  omega
 have cS:=fun w=>zkO v n w v0 h1 n8
 go_enter Tryz.func42,Tryz.ntmps42
 go_wp2_with (go_at_call 65;refine(cS _).mono ?_;rintro e w' ⟨r,rfl,hr,hbel⟩)
 go_ret2
 exact⟨r,rfl,hr,hbel⟩
section
section
variable (R:RowT)
theorem ze0 (w:World)(ty:TypeId)(S:Nat)(v:Value)(xs:List R.α)(hown:w.ownsRow S R.T R.K v xs.length (zaA R xs))(S':Nat)(u:Value)(ys:List R.α)(hu:w.ownsRow S' R.T R.K u ys.length (zaA R ys))(hl:xs.length+ys.length≤3000)(hS:S≤w.heap.size):
  ∃r w',(Builtin.append_ #[R.SL,R.SL] ty #[v,u]).run Tryz.prog w=.ok r w'∧w'.ownsRow S R.T R.K r (xs++ys).length (zaA R (xs++ys))∧w.grownBy w' v.ownBlock∧∀g,r.ownBlock=some g→v.ownBlock=some g∨w.heap.size≤g:=by
 obtain⟨i0,hi,hz0,hz1,hz2⟩:=info_parts R.hinfo
 have hzs:=R.hz
 have hbb:=R.hb
 have hpos:=R.hK
 have e:zaA R (xs++ys)=zaA R xs++zaA R ys:=zdi R xs ys
 have e2:(xs++ys).length=xs.length+ys.length:=by simp
 have hfl:=zbS R xs
 have hfy:=zbS R ys
 have hby:(xs.length+ys.length)*R.bytes≤140737488355328:=Nat.le_trans (Nat.mul_le_mul hl hbb) (by decide)
 have same:∀row,w.grownBy w row:=fun _=>⟨rfl,rfl,rfl,Nat.le_refl _,fun _ _ _=>rfl⟩
 rcases hu.2 with ⟨rfl,h0⟩|⟨b,c,cur2,rfl,_,_,hyc,_⟩
 ·have hy:ys=[]:=List.length_eq_zero_iff.1 h0
  subst hy
  refine⟨v,w,run_append_owned_none (P:=Tryz.prog) (w:=w) S R.SL ty R.T i0 R.K R.hSL hi v xs.length (zaA R xs) hown,?_,same _,fun _ h=>.inl h⟩
  rw[List.append_nil];exact hown
 ·have hnews:∀j q,(zaA R ys)[j]? =some q→w.cell? (((xQ b 0):Addr).add j)=some q:=fun j q hj=>by
   have h1:=(List.getElem?_eq_some_iff.1 hj).1
   rw[hfy]at h1
   rw[zdk,Nat.zero_add,zbf hu j h1];exact hj
  have hone:=ze1 R ys
  rw[e,e2]
  rcases hown.2 with ⟨rfl,h0⟩|⟨g,cap,cur,rfl,hg1,hg2,_⟩
  ·obtain⟨v',w',hr,h2,h3,_,_⟩:=run_append_own_at (P:=Tryz.prog) w w.heap.size R.SL ty R.T i0 R.zero R.K R.bytes R.hSL hi hz0 hz1 hz2 hzs hpos xS xs.length (zaA R xs) ⟨hown.1,.inl ⟨rfl,h0⟩⟩ (xQ b 0) ys.length c (zaA R ys) hfy hnews hone (by unfold maxLen;omega) hby xl
   exact⟨v',w',hr,zas h2 hS,h3,fun g hg=>.inr (World.ownsRow.lt h2 g hg).1⟩
  ·by_cases hroom:xs.length+ys.length≤cap
   ·obtain⟨w',hr,h2,h3⟩:=run_append_fits (P:=Tryz.prog) w S R.SL ty R.T i0 R.K R.hSL hi hz1 g xs.length cap (zaA R xs) hown (xQ b 0) ys.length c (zaA R ys) hfy hnews hone hroom
    exact⟨_,w',hr,h2,h3,fun g' h=>.inl h⟩
   ·obtain⟨v',w',hr,h2,h3⟩:=run_append_arg_grows (P:=Tryz.prog) w R.SL ty R.T i0 R.zero R.K R.bytes R.hSL hi hz0 hz1 hz2 hzs hpos (xQ g 0) xs.length cap (zaA R xs) hfl (hown.cells rfl) (xQ b 0) ys.length c (zaA R ys) hfy hnews (by omega) (by unfold maxLen;omega) hby
    exact⟨v',w',hr,zas h2 hS,⟨h3.os,h3.tape,h3.output,h3.size,fun k hk _=>h3.block k hk (by simp)⟩,fun g' hg=>.inr (World.ownsRow.lt h2 g' hg).1⟩
end
def bc (y:Int):List Value:=[.int .u8 y]
theorem znP:Tryz.prog.underlying 26=some (.slice 5):=by kernel_rfl
theorem zo0:(Tryz.prog.info? 5).map (fun i=>(i.zero,i.size,i.bytes))=some (some (.int .u8 0),1,1):=by kernel_rfl
theorem zob:Tryz.prog.cellsOf 5=1:=by kernel_rfl
theorem znb (y:Int):∀u∈bc y,u.oneCell'=true:=by
 intro u hu
 simp only[bc,List.mem_cons,List.not_mem_nil,or_false]at hu
 rw[hu];rfl
noncomputable def RB:RowT where
 α:=Int
 d:=0
 cl:=bc
 K:=1
 T:=5
 SL:=26
 zero:=.int .u8 0
 bytes:=1
 hcl:=fun _=>rfl
 hK:=by decide
 hone:=znb
 hSL:=znP
 hinfo:=zo0
 hz:=rfl
 hb:=by decide
 hc:=zob
def OwB (w:World)(S:Nat)(v:Value)(xs:List Int):Prop:=w.ownsRow S 5 1 v xs.length (xs.map (Value.int .u8))
theorem zep (xs:List Int):zaA RB xs=xs.map (Value.int .u8):=by
 show xs.flatMap bc=_
 induction xs with
 | nil=>rfl
 | cons x xs ih=>rw[List.flatMap_cons,ih];rfl
theorem OwB.to {w:World}{S:Nat}{v:Value}{xs:List Int}(h:OwB w S v xs):w.ownsRow S RB.T RB.K v xs.length (zaA RB xs):=by rw[zep];exact h
theorem OwB.of {w:World}{S:Nat}{v:Value}{xs:List Int}(h:w.ownsRow S RB.T RB.K v xs.length (zaA RB xs)):OwB w S v xs:=by rw[zep]at h;exact h
theorem OwB.form {w:World}{S:Nat}{v:Value}{xs:List Int}(h:OwB w S v xs):∃a c,v=.slice a xs.length c:=zap h
theorem OwB.lt {w:World}{S:Nat}{v:Value}{xs:List Int}(h:OwB w S v xs)(b:Nat)(hb:v.ownBlock=some b):S≤b∧b<w.heap.size:=World.ownsRow.lt h b hb
theorem OwB.mono {w:World}{S B:Nat}{v:Value}{xs:List Int}(h:OwB w S v xs)(hB:B≤S):OwB w B v xs:=zas h hB
theorem OwB.below {w w':World}{S:Nat}{v:Value}{xs:List Int}(h:OwB w S v xs)(hb:Below w.heap.size w w'):OwB w' S v xs:=zae h hb
theorem zpA (w:World)(S:Nat)(v:Value)(xs:List Int)(hown:OwB w S v xs)(y:Int)(hl:xs.length≤3000)(hS:S≤w.heap.size):
  ∃g cap w',(Builtin.append_ #[26,26] 26 #[v,.slice (some (w.heap.size,0)) 1 1]).run Tryz.prog (w.alloc (.cells #[.int .u8 y] 5))=.ok (.slice (some (xQ g 0)) (xs++[y]).length cap) w'∧OwB w' S (.slice (some (xQ g 0)) (xs++[y]).length cap) (xs++[y])∧(w.alloc (.cells #[.int .u8 y] 5)).grownBy w' v.ownBlock∧(v.ownBlock=some g∨w.heap.size≤g):=by
 obtain⟨g,cap,w',hr,h1,h2,h3⟩:=zgd RB (w.alloc (.cells #[.int .u8 y] 5)) 26 S v xs (hown.below (xr.alloc xl _)).to w.heap.size y (zcT RB w y _ rfl 5) hl (by simp;omega)
 have e:(xs++[y]).length=xs.length+1:=by simp
 refine⟨g,cap,w',?_,?_,h2,?_⟩
 ·rw[e];exact hr
 ·rw[e];exact OwB.of h1
 ·rcases h3 with h|h
  ·exact .inl h
  ·exact .inr (by simp at h;omega)
theorem brun (w:World)(S:Nat)(v:Value)(xs:List Int)(hown:OwB w S v xs)(S':Nat)(u:Value)(ys:List Int)(hu:OwB w S' u ys)(hl:xs.length+ys.length≤3000)(hS:S≤w.heap.size):
  ∃a cap w',(Builtin.append_ #[26,26] 26 #[v,u]).run Tryz.prog w=.ok (.slice a (xs++ys).length cap) w'∧OwB w' S (.slice a (xs++ys).length cap) (xs++ys)∧w.grownBy w' v.ownBlock∧∀g,(Value.slice a (xs++ys).length cap).ownBlock=some g→v.ownBlock=some g∨w.heap.size≤g:=by
 obtain⟨r,w',hr,h1,h2,h3⟩:=ze0 RB w 26 S v xs hown.to S' u ys hu.to hl hS
 have h4:=OwB.of h1
 obtain⟨a,c,rfl⟩:=h4.form
 exact⟨a,c,w',hr,h4,h2,h3⟩
theorem zeG {W w1:World}{tmp:Obj}{row:Option Nat}(h:(W.alloc tmp).grownBy w1 row):W.grownBy w1 row:=
 ⟨h.os,h.tape,h.output,Nat.le_trans (by simp) h.size,fun k hk hne=>(h.block k (by simp;omega) hne).trans (Below.heap_alloc W tmp k hk)⟩
theorem zng {W w1:World}{E n₀ B c:Nat}{v v':Value}{xs zs:List Int}(hB:n₀≤B)(hBc:B<c)(hn:n₀≤W.heap.size)
  (b1:Boxed W B 26 v) (o1:OwB W n₀ v xs) (hk:∀k,v.ownBlock=some k→k<c∨E≤k) (hw:E≤W.heap.size)
  (hown:OwB w1 n₀ v' zs) (hg:W.grownBy w1 v.ownBlock) (hgg:∀g,v'.ownBlock=some g→v.ownBlock=some g∨W.heap.size≤g):
  Boxed w1 B 26 v∧Boxed (w1.setCell (xQ B 0) v') B 26 v'∧OwB (w1.setCell (xQ B 0) v') n₀ v' zs∧(∀k,v'.ownBlock=some k→k<c∨E≤k)∧
  Keep c E W (w1.setCell (xQ B 0) v')∧Below n₀ W (w1.setCell (xQ B 0) v')∧(∀k,k<W.heap.size→k≠B→v.ownBlock≠some k→(w1.setCell (xQ B 0) v').heap[k]? =W.heap[k]?):=by
 have hne:some B≠v.ownBlock:=b1.not_row (by decide) o1
 have b1':Boxed w1 B 26 v:=b1.kept hg hne
 have hne':some B≠v'.ownBlock:=b1'.not_row (by decide) hown
 have hkk:∀k,k<W.heap.size→k≠B→v.ownBlock≠some k→(w1.setCell (xQ B 0) v').heap[k]? =W.heap[k]? :=fun k h1 h2 h3=>
  (Below.heap_setCell w1 (xQ B 0) _ k h2).trans (hg.block k h1 (fun e=>h3 e.symm))
 refine⟨b1',b1'.set _,World.ownsRow.kept (w:=w1) hown (grownBy_setCell' w1 B v') (.inr hne'.symm),fun k h=>?_,⟨by simpa using hg.size,fun k h1 h2 h3=>hkk k h3 (by omega) (fun e=>by have:=hk k e;omega)⟩,?_,hkk⟩
 ·rcases hgg k h with h|h
  ·exact hk k h
  ·exact .inr (Nat.le_trans hw h)
 ·exact((Below.refl n₀ W).grown hg hn (fun k e=>(o1.lt k e).1)).setCell (p:=xQ B 0) hB _
end
section
attribute [local go_sem] Oper.semAt_some
theorem zo3 (v:Int)(w:World)(h:EpOk v):Calls Tryz.prog 42 #[xI v,xI 4] w fun e w'=>∃r,e=.returned (.tuple #[r,xI 0])∧OwB w' w.heap.size r (lo v 4)∧Below w.heap.size w w':=by
 refine(zdP v 4 w ⟨h.1,by have:=h.2;show v<256*(256*(256*(256*1)));omega⟩ (by decide) (by decide)).mono fun e w' ⟨r,h1,h2,h3⟩=>⟨r,h1,?_,h3⟩
 unfold OwB
 rw[zan]
 exact h2
theorem zjM (M:Int)(v:Value)(ys:List (Int×Int))(w:World)(hE:El w v ys)(hl:ys.length≤3000)(h:¬BeOk M ys):
  Calls Tryz.prog 76 #[.agg #[xI M,v]] w fun e w'=>e=.returned (.tuple #[xS,xI 1])∧Below w.heap.size w w':=by
 obtain⟨a,c,rfl⟩:=hE.1.form
 have CR:=xh (zcX M (.slice a ys.length c) ys false ⟨fun hf=>(by cases hf),fun h'=>absurd h' h⟩ (w.alloc (.cells #[xI M,.slice a ys.length c] 42)) (hE.alloc _) hl)
 have HB:Hid (Below w.heap.size w (w.alloc (.cells #[xI M,.slice a ys.length c] 42))):=xr.alloc xl _
 clear hE
 go_enter Tryz.func76,Tryz.ntmps76
 go_wp2_with fail
 refine CR.out.mono ?_
 rintro e w2 ⟨rfl,hb⟩
 have HB2:=xh (HB.out.trans (hb.mono HB.out.size))
 clear hb
 go_wp2_with fail
 go_ret2
 exact⟨rfl,HB2.out⟩
def preB (M L:Int)(pre:List ((Int×Int)×(Int×Int))):List Int:=lo M 4++[L]++((zb6 pre).map ecB).flatten
theorem zjO (M L:Int)(pre:List ((Int×Int)×(Int×Int)))(x:(Int×Int)×(Int×Int)):preB M L (pre++[x])=(preB M L pre++[x.2.1])++lo x.2.2 4:=by
 unfold preB
 rw[zgl,List.map_append,List.flatten_append]
 simp[ecB]
theorem zlz (M L:Int)(pre:List ((Int×Int)×(Int×Int))):(preB M L pre).length=5+5*pre.length:=by
 unfold preB
 have:=zcw (zb6 pre)
 simp only[List.length_append,zan,List.length_cons,List.length_nil,this]
 simp[zb6]
theorem OwB.same {w w':World}{S:Nat}{v:Value}{xs:List Int}(h:OwB w S v xs)(hs:∀b,v.ownBlock=some b→w'.heap[b]? =w.heap[b]?):OwB w' S v xs:=by
 refine⟨h.1,?_⟩
 rcases h.2 with h2|⟨g,cap,cur,rfl,h3,hg,rest⟩
 ·exact .inl h2
 ·exact .inr ⟨g,cap,cur,rfl,h3,(hs g rfl).trans hg,rest⟩
def I9 (w:World)(M L:Int)(bx Bl:Nat)(pre:List ((Int×Int)×(Int×Int)))(W:World):Prop:=
 (∃v,Boxed W bx 26 v∧OwB W (w.heap.size+1) v (preB M L pre)∧∀k,v.ownBlock=some k→k<Bl∨Bl+5≤k)∧Below w.heap.size w W
theorem zpQ (w:World)(M L:Int)(bx Bl:Nat)(h1:bx<Bl)(h2:w.heap.size≤Bl):AbK (Bl+1) (Bl+1+2+2) (I9 w M L bx Bl):=by
 rintro s W W' row ⟨⟨v,hb,ho,hk⟩,hbel⟩ hg hr
 refine⟨⟨v,hb.kept hg (fun e=>by have:=hr _ e.symm;omega),World.ownsRow.kept ho hg ?_,hk⟩,hbel.grown hg hbel.size (fun k e=>by have:=hr k e;omega)⟩
 cases hq:v.ownBlock with
 | none=>exact .inl rfl
 | some q=>exact .inr (fun e=>by have:=hr q e.symm;have:=hk q hq;omega)
theorem zkM (M:Int)(v:Value)(ys:List (Int×Int))(w:World)(hE:El w v ys)(h:BeOk M ys):
  Calls Tryz.prog 76 #[.agg #[xI M,v]] w fun e w'=>(∃r,e=.returned (.tuple #[r,xI 0])∧OwB w' w.heap.size r (beB M ys))∧Below w.heap.size w w':=by
 obtain⟨a,c,rfl⟩:=hE.1.form
 have hl:=h.len
 obtain⟨W1,hW1⟩:∃W1,W1=w.alloc (.cells #[xI M,.slice a ys.length c] 42):=⟨_,rfl⟩
 have hs1:W1.heap.size=w.heap.size+1:=by rw[hW1];simp
 have hb1:Below w.heap.size w W1:=by rw[hW1];exact xr.alloc xl _
 have HB:=xh hb1
 have OX:Hid (OwnB2 W1 w.heap.size M (.slice a ys.length c)):=by rw[hW1];exact zbt w M (.slice a ys.length c) 42 w.heap.size rfl
 have cr:=zcX M (.slice a ys.length c) ys true ⟨fun _=>h,fun _=>rfl⟩ W1 (hE.below hb1) (by omega)
 simp only[if_true]at cr
 have CR:=xh cr
 have HO:=xh h
 have HE:=xh hE
 have hwl:=zhw hl
 obtain⟨⟨x0,x1⟩,xf⟩:=OX.out
 clear h hb1 hE cr
 refine callsIn_wide.1 (callsIn_of_wp_marks (n:=5) Tryz.func76 rfl trivial ?_ rfl)
 simp only[Tryz.ntmps76,List.size_toArray,List.length_cons,List.length_nil,Nat.reduceAdd,Nat.reduceSub,Array.replicate_succ,Array.replicate_zero,List.push_toArray,List.append_toArray,List.nil_append,List.cons_append]
 have hm:Tryz.prog.follows .mixedOrders=true:=by kernel_rfl
 gi_wp2_with (refine zhT ?_)
 rw[←hW1]
 clear hW1
 refine CR.out.mono ?_
 rintro e w2 ⟨rfl,hb⟩
 have HB2:=xh (HB.out.trans (hb.mono HB.out.size))
 have OX2:=xh (OX.out.below hb)
 have HS2:Hid (w.heap.size+1≤w2.heap.size):=by show _≤_;have:=hb.size;omega
 clear hb x0 x1 xf CR OX
 obtain⟨⟨x0,x1⟩,xf⟩:=OX2.out
 gi_wp2_with (refine zhT ?_)
 refine(zo3 M w2 HO.out.2).mono ?_
 rintro e w3 ⟨r,rfl,hr,hb⟩
 obtain⟨a3,c3,rfl⟩:=hr.form
 have HB3:=xh (HB2.out.trans (hb.mono HB2.out.size))
 have OX3:=xh (OX2.out.below hb)
 have HR3:Hid (OwB w3 (w.heap.size+1) (.slice a3 (lo M 4).length c3) (lo M 4)):=hr.mono (by have:=HS2.out;omega)
 have HS3:Hid (w.heap.size+1≤w3.heap.size):=Nat.le_trans HS2.out hb.size
 clear hb hr x0 x1 xf HB2 OX2
 obtain⟨l4,hl4⟩:∃l4,lo M 4=l4:=⟨_,rfl⟩
 rw[hl4]at HR3
 simp only[hl4]
 have hl4n:l4.length=4:=by rw[←hl4,zan]
 obtain⟨W4,hW4⟩:∃W4,W4=w3.alloc (.cells #[.slice a3 l4.length c3] 26):=⟨_,rfl⟩
 obtain⟨bx,hbx⟩:∃bx,w3.heap.size=bx:=⟨_,rfl⟩
 have hb34:Below w3.heap.size w3 W4:=by rw[hW4];exact(Below.refl _ w3).alloc xl _
 have hs4:W4.heap.size=bx+1:=by rw[hW4];simp[hbx]
 have b4:Boxed W4 bx 26 (.slice a3 l4.length c3):=by rw[hW4,←hbx];exact Boxed.new w3 26 _
 have o4:OwB W4 (w.heap.size+1) (.slice a3 l4.length c3) l4:=HR3.out.below hb34
 have OX4:=xh (OX3.out.below hb34)
 have HB4:=xh (HB3.out.trans (hb34.mono HB3.out.size))
 have hk4:∀k,(Value.slice a3 l4.length c3).ownBlock=some k→k<bx∨bx+1≤k:=fun k hk=>by have:=(HR3.out.lt k hk).2;omega
 have hsbx:w.heap.size+1≤bx:=by rw[←hbx];exact HS3.out
 obtain⟨g1,c1,w5,hr5,ho5,hg5,hgg5⟩:=zpA W4 (w.heap.size+1) (.slice a3 l4.length c3) l4 o4 (ys.length:Int) (by omega) (by omega)
 have hg5':=zeG hg5
 have ln5:(l4++[(ys.length:Int)]).length=5:=by simp[hl4n]
 obtain⟨k1,k2,k3,_,_,k6,k7⟩:=zng (E:=bx+1) (c:=bx+1) (n₀:=w.heap.size+1) (B:=bx) (by omega) (by omega) (by omega) b4 o4 (fun k hk=>hk4 k hk |>.imp (by omega) id) (by omega) ho5 hg5' (fun g h=>by simp only[Value.ownBlock,Option.some.injEq]at h;subst h;exact hgg5)
 have hv5:∀k,(Value.slice (some (xQ g1 0)) (l4++[(ys.length:Int)]).length c1).ownBlock=some k→k<w5.heap.size:=fun k hk=>(ho5.lt k hk).2
 have hbel5:Below (w.heap.size+1) W4 (w5.setCell (xQ bx 0) (.slice (some (xQ g1 0)) (l4++[(ys.length:Int)]).length c1)):=k6
 have OX5:=xh (OX4.out.low (Nat.lt_succ_self _) hbel5)
 have HB5:=xh (HB4.out.trans (hbel5.mono (Nat.le_succ _)))
 rw[hs4]at hr5
 have HR5:=xh hr5
 have hox5:=OX4.out.low (Nat.lt_succ_self _) ((Below.refl (w.heap.size+1) W4).grown hg5' (by omega) (fun k e=>(o4.lt k e).1))
 obtain⟨⟨z0,z1⟩,zf⟩:=hox5
 have HK5:=xh (And.intro k2 k3)
 have q0:=k1.cell
 have q1:=k1.frozen
 have p0:=b4.cell
 have hv5':∀k,(Value.slice (some (xQ g1 0)) (l4++[(ys.length:Int)]).length c1).ownBlock=some k→k<(w5.setCell (xQ bx 0) (.slice (some (xQ g1 0)) (l4++[(ys.length:Int)]).length c1)).heap.size:=fun k hk=>by simpa using hv5 k hk
 have HV5:=xh hv5'
 obtain⟨y0,y1⟩:=OX4.out.1
 have HW5:Hid (bx<(w5.setCell (xQ bx 0) (.slice (some (xQ g1 0)) (l4++[(ys.length:Int)]).length c1)).heap.size):=(Array.getElem?_eq_some_iff.1 k2).1
 clear k1 k2 k3 k6 k7 hr5 ho5 hg5 hg5' hgg5 hv5 hv5' hk4 hbel5 b4 o4 hb34
 obtain⟨l5,hl5⟩:∃l5,l4++[(ys.length:Int)]=l5:=⟨_,rfl⟩
 rw[hl5]at HR5 HK5 OX5 HB5 HV5 HW5 ln5
 have HL5:Hid (l5=preB M (ys.length:Int) []):=by show _=_;rw[←hl5,←hl4];simp[preB,zb6]
 have hnx:w.heap.size≠bx:=by omega
 have HLN4:=xh hl4n
 have HLN5:=xh ln5
 have HHS4:=xh hs4
 clear hl4 hl5 hl4n ln5 hs4
 subst hW4
 gi_wp2_with (gi_at_builtin;refine zjd rfl (.tmp 22) (.tmp 27) 26 rfl _ _ _ _ rfl rfl HR5.out ?_)
 refine zhT ?_
 obtain⟨V6,hV6⟩:∃V6,w5.setCell (xQ bx 0) (.slice (some (xQ g1 0)) l5.length c1)=V6:=⟨_,rfl⟩
 rw[hV6]at HB5 OX5 HK5 HV5 HW5
 simp only[hV6]
 clear hV6 z0 z1 zf y0 y1 p0 q0 q1 HR5 HB4 OX4 HB3 OX3 HR3 HHS4
 have cT:=zhP _ ys V6 (HE.out.below HB5.out).1
 obtain⟨W2,hW2⟩:∃W2,W2=V6.alloc (.cells #[.slice a ys.length c] 40):=⟨_,rfl⟩
 obtain⟨Bl,hBl⟩:∃Bl,V6.heap.size=Bl:=⟨_,rfl⟩
 rw[←hW2,hBl]at cT
 have hs2:W2.heap.size=Bl+1:=by rw[hW2];simp[hBl]
 have hlb:bx<Bl:=by rw[←hBl];exact HW5.out
 have hwB:w.heap.size≤Bl:=by omega
 have bL:Boxed W2 Bl 40 (.slice a ys.length c):=by rw[hW2,←hBl];exact Boxed.new V6 40 _
 have hb2:Below w.heap.size w W2:=by rw[hW2];exact HB5.out.alloc HB5.out.size _
 have h0:I9 w M (ys.length:Int) bx Bl [] W2:=by
  refine⟨⟨.slice (some (xQ g1 0)) l5.length c1,by rw[hW2];exact HK5.out.1.alloc _,?_,fun k hk=>.inl (by rw[←hBl];exact HV5.out k hk)⟩,hb2⟩
  have h9:OwB W2 (w.heap.size+1) (.slice (some (xQ g1 0)) l5.length c1) l5:=by rw[hW2];exact HK5.out.2.below (xr.alloc xl _)
  have h8:=HL5.out
  rw[←h8];exact h9
 have SQ:=zmF 4 w W2 Bl a c ys HE.out hb2 (by omega) bL.cell
 refine cT.mono ?_
 rintro e V2 ⟨rfl,rfl⟩
 have HBl:=xh hBl
 clear cT hW2 bL hBl
 gi_wp2_with fail
 refine zcI rfl (by decide) (gf:=123) (lb:=#[xP Bl]) rfl trivial (enters_of Tryz.func123 (by kernel_rfl) rfl) SQ xr (fun _=>rfl)
  (Bl+1) (Bl+1+2+2) hs2 rfl (by omega) (by omega) (by omega)
  (I9 w M (ys.length:Int) bx Bl) (fun _ _ _=>False) (zpQ w M (ys.length:Int) bx Bl hlb hwB) (fun _ _ _ _ _ hs _ _=>hs) h0 ?round ?done ?stop
 case round=>
  rintro l pre ⟨⟨x1,x2⟩,y1,y2⟩ W hI hsz hpre
  obtain⟨hp1,hp2,_⟩:=zlC hpre
  have hy:(y1,y2)=ys.getD pre.length (0,0):=by have:=congrArg Prod.snd hp2;exact this
  have hE1:=HO.out.1 pre.length hp1
  have hE2:(0≤y1∧y1<64)∧EpOk y2:=by unfold EcAt at hE1;rw[←hy]at hE1;exact⟨hE1.1,hE1.2.2⟩
  have HQ:=xh (And.intro hI (And.intro hsz (And.intro hp1 hE2)))
  clear SQ hI hpre h0 hp1 hp2 hy hE1 hE2 hb2
  have hw1:IntKind.u8.wrap y1=y1:=by have:=HQ.out.2.2.2.1;rw[IntKind.wrap_u8];omega
  simp[encE]
  gi_wp2_with fail
  refine⟨Keep.alloc _ _ _ _,(Below.refl _ W).alloc (by omega) _,fun V hg=>?_⟩
  obtain⟨⟨e0,e1⟩,hs⟩:=znK y1 y2 hg (by omega)
  obtain⟨⟨v,hv,ho,hk⟩,hbw⟩:=HQ.out.1
  have hne:∀k,v.ownBlock=some k→k≠Bl+1+1:=fun k h=>by have:=hk k h;omega
  have hvV:Boxed V bx 26 v:=(hv.alloc _).kept hg (by simp<;>omega)
  have hoV:OwB V (w.heap.size+1) v (preB M (ys.length:Int) pre):=World.ownsRow.kept (ho.below (xr.alloc xl (.cells #[xI y1,xI y2] 113))) hg (by
   cases hq:v.ownBlock with
   | none=>exact .inl rfl
   | some q=>exact .inr (fun e=>hne q hq (by simpa using e)))
  have hbV:Below w.heap.size w V:=(hbw.alloc (by omega) _).grown hg (by simp;omega) (fun k e=>by cases e;omega)
  have hvW:∀k,v.ownBlock=some k→k<W.heap.size:=fun k h=>(ho.lt k h).2
  obtain⟨a3,c3,rfl⟩:=hoV.form
  have HPS:=xh (zjO M (ys.length:Int) pre ((x1,x2),y1,y2))
  have hpl:=zlz M (ys.length:Int) pre
  obtain⟨lp,hlp⟩:∃lp,preB M (ys.length:Int) pre=lp:=⟨_,rfl⟩
  rw[hlp]at hoV hpl hvV hvW hk HPS
  have HV:=xh (And.intro hvV (And.intro hoV (And.intro hbV (And.intro hk (And.intro hvW hpl)))))
  have HGV:Hid (W.heap.size<V.heap.size∧Bl+1+2+2≤W.heap.size):=⟨by omega,by omega⟩
  clear hv ho hbw hne hvV hoV hbV hk hvW hpl hlp hg
  generalize W.heap.size=g at*
  gi_wp2_with fail
  refine zjC ?_
  refine(zo3 y2 V HQ.out.2.2.2.2).mono ?_
  rintro e V1 ⟨r6,rfl,hr,hb⟩
  obtain⟨a6,c6,rfl⟩:=hr.form
  have hq4:=zan y2 4
  obtain⟨q4,hq4e⟩:∃q4,lo y2 4=q4:=⟨_,rfl⟩
  rw[hq4e]at hr hq4 HPS
  simp only[hq4e]
  clear hq4e
  obtain⟨v1,v2,v3,v4,v5,v6⟩:=HV.out
  have hVs:=hb.size
  have hgv:=HGV.out.1
  have u1:Boxed V1 bx 26 (.slice a3 lp.length c3):=(hb.block bx (by omega)).trans v1
  have u2:OwB V1 (w.heap.size+1) (.slice a3 lp.length c3) lp:=v2.below hb
  have u3:=v3.trans (hb.mono v3.size)
  have e0':=(hb.cell (p:=xQ g 0) HGV.out.1).trans e0
  have hr64:lp.length≤2000:=by have:=HQ.out.2.2.1;omega
  have hsV1:w.heap.size+1≤V1.heap.size:=by omega
  obtain⟨g2,c2,w6,hr6,ho6,hg6,hgg6⟩:=zpA V1 (w.heap.size+1) (.slice a3 lp.length c3) lp u2 y1 (by omega) hsV1
  have hw5:Bl+5≤V1.heap.size:=by omega
  obtain⟨k1,k2,k3,k4,k5,k6,k7⟩:=zng (E:=Bl+5) (c:=Bl) (n₀:=w.heap.size+1) (B:=bx) hsbx hlb hsV1 u1 u2 v4 hw5 ho6 (zeG hg6) (fun g h=>by simp only[Value.ownBlock,Option.some.injEq]at h;subst h;exact hgg6)
  have hk7s:(w6.setCell (xQ bx 0) (.slice (some (xQ g2 0)) (lp++[y1]).length c2)).heap.size≥V1.heap.size:=k6.size
  have hr7:=hr.same (w':=w6.setCell (xQ bx 0) (.slice (some (xQ g2 0)) (lp++[y1]).length c2)) (fun b hbk=>by
   have h1:=hr.lt b hbk
   exact k7 b h1.2 (by omega) (fun e=>by have:=v5 b e;omega))
  have hlp1:(lp++[y1]).length=lp.length+1:=by simp
  obtain⟨l1,hl1⟩:∃l1,lp++[y1]=l1:=⟨_,rfl⟩
  rw[hl1]at hr6 ho6 k2 k3 k4 k5 k6 k7 hk7s hr7 hlp1 HPS
  obtain⟨a8,c8,w8,hr8,ho8,hg8,hgg8⟩:=brun (w6.setCell (xQ bx 0) (.slice (some (xQ g2 0)) l1.length c2)) (w.heap.size+1) (.slice (some (xQ g2 0)) l1.length c2) l1 k3 V.heap.size (.slice a6 q4.length c6) q4 hr7 (by omega) (by omega)
  obtain⟨l2,hl2⟩:∃l2,l1++q4=l2:=⟨_,rfl⟩
  rw[hl2]at hr8 ho8 hgg8 HPS
  obtain⟨m1,m2,m3,m4,m5,m6,_⟩:=zng (E:=Bl+5) (c:=Bl) (n₀:=w.heap.size+1) (B:=bx) hsbx hlb (by omega) k2 k3 k4 (by omega) ho8 hg8 hgg8
  have t0:=u1.cell
  have t1:=k1.cell
  have t2:=k1.frozen
  have t3:=m1.cell
  have t4:=m1.frozen
  have HR6:=xh hr6
  have HR8:=xh hr8
  have hkeep:=((Keep.news hb).trans k5).trans m5
  have hbel:=(hb.mono (show w.heap.size≤V.heap.size by omega)).trans ((k6.mono (Nat.le_succ _)).trans (m6.mono (Nat.le_succ _)))
  have HZ:=xh (And.intro hkeep (And.intro hbel (And.intro m2 (And.intro m3 m4))))
  have hbz:=xh (v3.trans hbel)
  clear hr hb hr6 ho6 hg6 hgg6 k1 k2 k3 k4 k5 k6 k7 hk7s hr7 hr8 ho8 hg8 hgg8 m1 m2 m3 m4 m5 m6 hl1 hl2 v1 v2 v3 v4 v5 v6 u1 u2 u3 e0 hkeep hbel hlp1 hq4 hVs hgv
  gi_wp2_with (first|(gi_at_builtin;refine zjd rfl (.tmp 40) (.tmp 44) 26 rfl _ _ _ _ rfl rfl HR6.out ?_)|(gi_at_builtin;refine zjd rfl (.tmp 46) (.tmp 47) 26 rfl _ _ _ _ rfl rfl HR8.out ?_))
  refine⟨HZ.out.1,HZ.out.2.1,⟨_,HZ.out.2.2.1,?_,HZ.out.2.2.2.2⟩,hbz.out⟩
  rw[HPS.out]
  exact HZ.out.2.2.2.1
 case done=>
  rintro W ⟨⟨v,hv,ho,hk⟩,hbel⟩ hK
  obtain⟨a3,c3,rfl⟩:=ho.form
  have hlen:preB M (ys.length:Int) (zbW ys ys.length)=beB M ys:=by unfold preB beB;rw[zgt]
  rw[hlen]at ho hv hk
  obtain⟨lb,hlb2⟩:∃lb,beB M ys=lb:=⟨_,rfl⟩
  rw[hlb2]at ho hv hk
  have HLB:=xh hlb2
  clear hlen hlb2
  have r0:=hv.cell
  have h3:OwB (W.putObj (Bl+1) (.deferred none)) (w.heap.size+1) (.slice a3 lb.length c3) lb:=ho.same (fun b hb=>World.putObj_heap_other (by have:=hk b hb;omega))
  have h4:Below w.heap.size w (W.putObj (Bl+1) (.deferred none)):=hbel.grown (grownBy_putObj' _ _ _) hbel.size (fun k e=>by cases e;omega)
  gi_wp2_with fail
  refine zdR hK (v:=.tuple #[.slice a3 lb.length c3,xI 0]) (by simp[results,Tryz.results76,go_sem]) ⟨⟨_,rfl,by rw[HLB.out];exact h3.mono (Nat.le_succ _)⟩,h4⟩
 case stop=>
  rintro ex pre W hpre h
  exact h.elim
end
section
section
variable (R:RowT)
end
theorem zp2 (w:World)(ty:TypeId)(S:Nat)(v:Value)(xs:List Int)(hown:OwB w S v xs)(S':Nat)(u:Value)(ys:List Int)(hu:OwB w S' u ys)(hl:xs.length+ys.length≤3000)(hS:S≤w.heap.size):
  ∃r w',(Builtin.append_ #[26,26] ty #[v,u]).run Tryz.prog w=.ok r w'∧OwB w' S r (xs++ys)∧w.grownBy w' v.ownBlock∧∀g,r.ownBlock=some g→v.ownBlock=some g∨w.heap.size≤g:=by
 obtain⟨r,w',hr,h1,h2,h3⟩:=ze0 RB w ty S v xs hown.to S' u ys hu.to hl hS
 exact⟨r,w',hr,OwB.of h1,h2,h3⟩
theorem zfo {ops:Array Oper}{rest:List Oper}{o:Oper}{a:Act}{Q:Exit→Act→World→Prop}{w:World}(hgd:o.guard=none)(s x:Operand)
  (ho:o.op=.call {callee:=.builtin .append,args:=#[s,x],argTypes:=#[26,26]}) (S:Nat) (xs:List Int) (hown:OwB w S (a.eval s) xs) (S':Nat) (ys:List Int) (hu:OwB w S' (a.eval x) ys) (hl:xs.length+ys.length≤3000) (hS:S≤w.heap.size)
  (h:∀v' w',OwB w' S v' (xs++ys)→w.grownBy w' (a.eval s).ownBlock→(∀g,v'.ownBlock=some g→(a.eval s).ownBlock=some g∨w.heap.size≤g)→wpList Tryz.prog ops Q rest (a.put o.dst v') w'):wpList Tryz.prog ops Q (o::rest) a w:=by
 obtain⟨v',w',hr,h2,h3,h4⟩:=zp2 w o.type S _ xs hown S' _ ys hu hl hS
 refine wpList_plain hgd fun _ hK=>?_
 unfold Oper.wp execOp
 simp only[ho,resolve,invoke,builtin,Sem.run_bind,Sem.run_pure,Result.andThen_ok,List.map_toArray,List.map_cons,List.map_nil,hr]
 exact hK _ _ (h v' w' h2 h3 h4)
def Sep (lo hi:Nat)(v:Value):Prop:=∀g,v.ownBlock=some g→g<lo∨hi≤g
def Btw (w:World)(lo hi:Nat)(v:Value)(xs:List Int):Prop:=OwB w lo v xs∧∀g,v.ownBlock=some g→g<hi
theorem Btw.grown {w w':World}{lo hi:Nat}{r v:Value}{xs:List Int}(h:Btw w lo hi r xs)(hs:Sep lo hi v)(hg:w.grownBy w' v.ownBlock):Btw w' lo hi r xs:=by
 refine⟨World.ownsRow.kept h.1 hg ?_,h.2⟩
 cases hq:r.ownBlock with
 | none=>exact .inl rfl
 | some q=>exact .inr (fun e=>by have h1:=(h.1.lt q hq).1;have h2:=h.2 q hq;have h3:=hs q e.symm;omega)
theorem Btw.below {w w':World}{lo hi:Nat}{r:Value}{xs:List Int}(h:Btw w lo hi r xs)(hb:Below w.heap.size w w'):Btw w' lo hi r xs:=⟨h.1.below hb,h.2⟩
theorem Sep.next {lo hi n:Nat}{v v':Value}(h:Sep lo hi v)(hn:hi≤n)(h':∀g,v'.ownBlock=some g→v.ownBlock=some g∨n≤g):Sep lo hi v':=fun g hg=>by
 rcases h' g hg with h1|h1
 ·exact h g h1
 ·exact .inr (Nat.le_trans hn h1)
theorem zoC (v:Int)(w:World)(h:EpOk v):Calls Tryz.prog 42 #[xI v,xI 4] w fun e w'=>∃r,e=.returned (.tuple #[r,xI 0])∧OwB w' w.heap.size r (lo v 4)∧Below w.heap.size w w':=by
 refine(zdP v 4 w ⟨h.1,by have:=h.2;show v<256*(256*(256*(256*1)));omega⟩ (by decide) (by decide)).mono fun e w' ⟨r,h1,h2,h3⟩=>⟨r,h1,?_,h3⟩
 unfold OwB
 rw[zan]
 exact h2
theorem zmr (v:Int)(w:World)(h:0≤v∧v≤65535):Calls Tryz.prog 42 #[xI v,xI 2] w fun e w'=>∃r,e=.returned (.tuple #[r,xI 0])∧OwB w' w.heap.size r (lo v 2)∧Below w.heap.size w w':=by
 refine(zdP v 2 w ⟨h.1,by have:=h.2;show v<256*(256*1);omega⟩ (by decide) (by decide)).mono fun e w' ⟨r,h1,h2,h3⟩=>⟨r,h1,?_,h3⟩
 unfold OwB
 rw[zan]
 exact h2
theorem ziS (v:Value)(ys:List (Int×Int×Int×Int))(w:World)(hy:As w v ys)(hl:ys.length≤3000)(h:¬zbq ys):
  Calls Tryz.prog 80 #[v] w fun e w'=>e=.returned (.tuple #[xS,xI 1])∧Below w.heap.size w w':=by
 have CR:=xh (zdd v ys false ⟨fun hf=>(by cases hf),fun h'=>absurd h' h⟩ w hy hl)
 go_enter Tryz.func80,Tryz.ntmps80
 go_wp2_with fail
 refine CR.out.mono ?_
 rintro e w2 ⟨rfl,hb⟩
 have HB2:=xh hb
 clear hb
 simp only[errQ]
 go_wp2_with fail
 go_ret2
 exact⟨rfl,HB2.out⟩
theorem zi1 (v:Value)(ys:List (Int×Int×Int×Int))(w:World)(hy:As w v ys)(h:zbq ys):
  Calls Tryz.prog 80 #[v] w fun e w'=>(∃r,e=.returned (.tuple #[r,xI 0])∧OwB w' w.heap.size r (acB ys))∧Below w.heap.size w w':=by
 obtain⟨a,c,rfl⟩:=hy.form
 have hl:=h.2.2
 have HY:=xh hy
 have CR:=xh (zdd (.slice a ys.length c) ys true ⟨fun _=>h,fun _=>rfl⟩ w hy (by omega))
 have HO:=xh h
 have hwl:=zhw hl
 clear hy h
 go_enter Tryz.func80,Tryz.ntmps80
 go_wp2_with fail
 refine CR.out.mono ?_
 rintro e w2 ⟨rfl,hb⟩
 have HR4:Hid (OwB (w2.alloc (.cells #[.int .u8 (ys.length:Int)] 5)) w.heap.size (.slice (some (w2.heap.size,0)) 1 1) [(ys.length:Int)]):=zck w2 w.heap.size (ys.length:Int) hb.size w2.heap.size rfl
 have HC4:Hid (Below w.heap.size w (w2.alloc (.cells #[.int .u8 (ys.length:Int)] 5))):=hb.alloc hb.size _
 clear hb CR
 simp only[errQ]
 go_wp2_with fail
 go_loopw [5,25] (fun out i wr=>∃(k:Nat) (v5:Value),k≤ys.length∧i=xI k∧v5=out∧OwB wr w.heap.size v5 ([(ys.length:Int)]++((ys.take k).map akB).flatten)∧Below w.heap.size w wr) (fun _ i _=>ys.length-(intOf i).toNat)
 case atStart=>exact⟨0,_,Nat.zero_le _,rfl,rfl,by simpa using HR4.out,HC4.out⟩
 case round=>
  obtain⟨k,v5,hk,rfl,rfl,hrow,hbel⟩:=hrel
  have hPl:([(ys.length:Int)]++((ys.take k).map akB).flatten).length=1+9*k:=by
   simp only[List.length_append,List.length_cons,List.length_nil,zbY,List.length_take];omega
  obtain⟨P,hP⟩:∃P,[(ys.length:Int)]++((ys.take k).map akB).flatten=P:=⟨_,rfl⟩
  rw[hP]at hrow hPl
  have HPL:Hid (P.length≤600):=by show _≤_;omega
  have HP:=xh hP
  clear hPl hP
  obtain⟨a5,c5,rfl⟩:=hrow.form
  have HR5:=xh hrow
  have HC5:=xh hbel
  have HZ5:Hid (w.heap.size≤wr.heap.size):=hbel.size
  have HY5:Hid (As wr (.slice a ys.length c) ys):=HY.out.below hbel
  clear hrow hbel HR4 HC4
  by_cases hlt:k<ys.length
  ·obtain⟨b,off,rfl,hB,p0⟩:=HY5.out.at hlt
   have hE:=HO.out.1 k hlt
   have hst:=zhM ys k hlt
   obtain⟨⟨y1,y2,y3,y4⟩,hyk⟩:∃y,ys.getD k (0,0,0,0)=y:=⟨_,rfl⟩
   rw[hyk]at p0 hst
   have hE1:zcr (y1,y2,y3,y4):=by rw[←hyk];exact hE.1
   have HE:=xh hE1
   have HST:=xh hst
   have hw1:IntKind.u8.wrap y1=y1:=by have h9:0≤y1∧y1<64:=HE.out.1;rw[IntKind.wrap_u8];omega
   clear hE hE1 hst hyk
   obtain⟨p0,p1,p2,p3⟩:=p0
   simp only at p0 p1 p2 p3
   go_wp2_with fail
   clear p0 p1 p2 p3
   obtain⟨W5,hW5⟩:∃W5,W5=wr.alloc (.cells #[xI y1,xI y2,xI y3,xI y4] 120):=⟨_,rfl⟩
   have OA:OwnA W5 wr.heap.size (y1,y2,y3,y4):=by rw[hW5];exact ziU wr y1 y2 y3 y4 120 wr.heap.size rfl
   have hb5:Below wr.heap.size wr W5:=by rw[hW5];exact(Below.refl _ wr).alloc xl _
   rw[←hW5]
   clear hW5
   have HB5:=xh hb5
   have OA5:=xh OA
   obtain⟨g,hg⟩:∃g,wr.heap.size=g:=⟨_,rfl⟩
   rw[hg]at OA
   simp only[hg]
   have HG:=xh hg
   clear hg hb5
   obtain⟨⟨q0,q1,q2,q3⟩,-⟩:=OA
   simp only at q0 q1 q2 q3
   refine(zoC y2 W5 HE.out.2.1).mono ?_
   rintro e w6 ⟨r6,rfl,hr6,hb6⟩
   have HB6:Hid (Below wr.heap.size wr w6):=HB5.out.trans (hb6.mono HB5.out.size)
   have OA6:=xh (OA5.out.below hb6)
   have R6:Hid (Btw w6 wr.heap.size w6.heap.size r6 (lo y2 4)):=⟨hr6.mono HB5.out.size,fun q hq=>(hr6.lt q hq).2⟩
   have D6:=xh hb6
   clear hb6 hr6 q0 q1 q2 q3
   obtain⟨⟨q0,q1,q2,q3⟩,-⟩:=OA6.out
   rw[HG.out]at q0 q1 q2 q3
   simp only at q0 q1 q2 q3
   go_wp2_with fail
   refine(zmr y3 w6 HE.out.2.2.1).mono ?_
   rintro e w7 ⟨r7,rfl,hr7,hb7⟩
   have HB7:Hid (Below wr.heap.size wr w7):=HB6.out.trans (hb7.mono HB6.out.size)
   have OA7:=xh (OA6.out.below hb7)
   have R7:Hid (Btw w7 wr.heap.size w7.heap.size r7 (lo y3 2)):=⟨hr7.mono HB6.out.size,fun q hq=>(hr7.lt q hq).2⟩
   have D7:=xh hb7
   clear hb7 hr7 q0 q1 q2 q3
   obtain⟨⟨q0,q1,q2,q3⟩,-⟩:=OA7.out
   rw[HG.out]at q0 q1 q2 q3
   simp only at q0 q1 q2 q3
   go_wp2_with fail
   refine(zmr y4 w7 HE.out.2.2.2).mono ?_
   rintro e w8 ⟨r8,rfl,hr8,hb8⟩
   have HB8:Hid (Below wr.heap.size wr w8):=HB7.out.trans (hb8.mono HB7.out.size)
   have OA8:=xh (OA7.out.below hb8)
   have R8:Hid (Btw w8 wr.heap.size w8.heap.size r8 (lo y4 2)):=⟨hr8.mono HB7.out.size,fun q hq=>(hr8.lt q hq).2⟩
   have D8:=xh hb8
   clear hb8 hr8 q0 q1 q2 q3
   obtain⟨⟨q0,q1,q2,q3⟩,-⟩:=OA8.out
   rw[HG.out]at q0 q1 q2 q3
   simp only at q0 q1 q2 q3
   have T6:Hid (Btw w8 wr.heap.size w8.heap.size r6 (lo y2 4)):=⟨(R6.out.below (D7.out.trans (D8.out.mono D7.out.size))).1,fun q hq=>Nat.lt_of_lt_of_le (R6.out.2 q hq) (Nat.le_trans D7.out.size D8.out.size)⟩
   have T7:Hid (Btw w8 wr.heap.size w8.heap.size r7 (lo y3 2)):=⟨(R7.out.below D8.out).1,fun q hq=>Nat.lt_of_lt_of_le (R7.out.2 q hq) D8.out.size⟩
   have T8:=R8
   have HR8:=xh (HR5.out.below HB8.out)
   have SP:Hid (Sep wr.heap.size w8.heap.size (.slice a5 P.length c5)):=fun q hq=>.inl (HR5.out.lt q hq).2
   have HC8:Hid (Below w.heap.size w w8):=HC5.out.trans (HB8.out.mono HZ5.out)
   have HZ8:Hid (w.heap.size≤w8.heap.size):=HC8.out.size
   clear R6 R7 R8 D6 D7 D8 HB5 HB6 HB7 HB8 OA5 OA6 OA7 OA8 HC5 HR5 HY5
   go_wp2_with (first
    | (at_builtin;(skip;refine zfo rfl (.tmp 47) (.tmp 51) rfl w.heap.size P (HR8.out.below ((Below.refl _ w8).alloc xl _)) w8.heap.size [y1] (zck w8 w8.heap.size y1 xl w8.heap.size rfl) (by have:=HPL.out;simp;omega) (by have:=HZ8.out;simp;omega) ?_;intro v9 w9 ho9 hg9 hs9;(have sz9:(w8.alloc (.cells #[.int .u8 y1] 5)).heap.size=w8.heap.size+1:=by simp);(have hbz:Below w8.heap.size w8 (w8.alloc (.cells #[.int .u8 y1] 5)):=(Below.refl _ w8).alloc xl _);(have SP9:=xh (SP.out.next (by omega) hs9));(have HC9:Hid (Below w.heap.size w w9):=(HC8.out.trans (hbz.mono HZ8.out)).grown hg9 (by have:=HZ8.out;omega) (fun k hk=>(HR8.out.lt k hk).1));(have T69:=xh ((T6.out.below hbz).grown SP.out hg9));(have T79:=xh ((T7.out.below hbz).grown SP.out hg9));(have T89:=xh ((T8.out.below hbz).grown SP.out hg9));(have HR9:=xh ho9);(have HS9:Hid (w8.heap.size≤w9.heap.size):=by have:=hg9.size;show _≤_;omega);clear ho9 hg9 hs9 sz9 hbz SP T6 T7 T8))
    | (at_builtin;(skip;refine zfo rfl (.tmp 53) (.tmp 54) rfl w.heap.size (P++[y1]) HR9.out wr.heap.size (lo y2 4) T69.out.1 (by have:=HPL.out;simp[zan];omega) (Nat.le_trans HZ8.out HS9.out) ?_;intro v10 w10 ho hg9 hs9;(have SP10:=xh (SP9.out.next HS9.out hs9));(have HC10:Hid (Below w.heap.size w w10):=HC9.out.grown hg9 (Nat.le_trans HZ8.out HS9.out) (fun k hk=>(HR9.out.lt k hk).1));(have T710:=xh (T79.out.grown SP9.out hg9));(have T810:=xh (T89.out.grown SP9.out hg9));(have HR10:=xh ho);(have HS10:Hid (w8.heap.size≤w10.heap.size):=Nat.le_trans HS9.out hg9.size);clear ho hg9 hs9))
    | (at_builtin;(skip;refine zfo rfl (.tmp 56) (.tmp 57) rfl w.heap.size (P++[y1]++lo y2 4) HR10.out wr.heap.size (lo y3 2) T710.out.1 (by have:=HPL.out;simp[zan];omega) (Nat.le_trans HZ8.out HS10.out) ?_;intro v11 w11 ho hg9 hs9;(have SP11:=xh (SP10.out.next HS10.out hs9));(have HC11:Hid (Below w.heap.size w w11):=HC10.out.grown hg9 (Nat.le_trans HZ8.out HS10.out) (fun k hk=>(HR10.out.lt k hk).1));(have T811:=xh (T810.out.grown SP10.out hg9));(have HR11:=xh ho);(have HS11:Hid (w8.heap.size≤w11.heap.size):=Nat.le_trans HS10.out hg9.size);clear ho hg9 hs9))
    | (at_builtin;(skip;refine zfo rfl (.tmp 59) (.tmp 60) rfl w.heap.size (P++[y1]++lo y2 4++lo y3 2) HR11.out wr.heap.size (lo y4 2) T811.out.1 (by have:=HPL.out;simp[zan];omega) (Nat.le_trans HZ8.out HS11.out) ?_;intro v12 w12 ho hg9 hs9;(have SP12:=xh (SP11.out.next HS11.out hs9));(have HC12:Hid (Below w.heap.size w w12):=HC11.out.grown hg9 (Nat.le_trans HZ8.out HS11.out) (fun k hk=>(HR11.out.lt k hk).1));(have HR12:=xh ho);(have HS12:Hid (w8.heap.size≤w12.heap.size):=Nat.le_trans HS11.out hg9.size);clear ho hg9 hs9)))
   go_roundw
   case rel=>exact⟨k+1,_,by omega,by go_num,rfl,by rw[HST.out,←List.append_assoc,HP.out];simpa [akB]using HR12.out,HC12.out⟩
   case measure=>simp[intOf];omega
  ·obtain rfl:k=ys.length:=by omega
   go_wp2_with fail
   go_ret2
   exact⟨⟨_,rfl,by have h8:=HP.out;rw[List.take_length]at h8;have h9:=HR5.out;unfold acB;rw[h8];exact h9⟩,HC5.out⟩
end
theorem zgV (x:ByteArray):Lib.strCells x=(bl x).map (Value.int .u8):=by
 unfold Lib.strCells bl
 rw[List.map_map];rfl
theorem ziT {ops:Array Oper}{rest:List Oper}{o:Oper}{a:Act}{Q:Exit→Act→World→Prop}{w:World}(hgd:o.guard=none)(s x:Operand)
  (ho:o.op=.call {callee:=.builtin .append,args:=#[s,x],argTypes:=#[26,9]}) (S:Nat) (xs:List Int) (hown:w.ownsRow S 5 1 (a.eval s) xs.length (xs.map (Value.int .u8))) (str:ByteArray) (hx:a.eval x=.string str) (hl:xs.length+str.size≤100000) (hS:S≤w.heap.size)
  (h:∀v' w',w'.ownsRow S 5 1 v' (xs++bl str).length ((xs++bl str).map (Value.int .u8))→Below S w w'→w.heap.size≤w'.heap.size→wpList Tryz.prog ops Q rest (a.put o.dst v') w'):wpList Tryz.prog ops Q (o::rest) a w:=by
 obtain⟨i0,hi,hz0,hz1,hz2⟩:=info_parts Tryz.info5
 refine Lib.wpList_append_own_string w hgd s x 26 9 ho S 5 i0 Tryz.underlying26 Tryz.underlying9 hi hz0 hz1 hz2 _ _ _ rfl hown str hx (by unfold maxLen;omega) (by omega) hS fun v' w' h2 h3 _=>?_
 refine h v' w' ?_ (xr.grown h3 hS (fun k hk=>(hown.lt k hk).1)) h3.size
 rw[List.length_append,zdh,List.map_append,←zgV]
 exact h2
def Prs (w:World)(g:Nat)(ps:List (Int×Nat)):Prop:=∀i,i<ps.length→w.cell? ⟨g,i*2,none⟩=some (.int .i64 (ps.getD i (0,0)).1)∧w.cell? ⟨g,i*2+1,none⟩=xJ ((ps.getD i (0,0)).2:Int)
theorem Prs.below {w w':World}{g:Nat}{ps:List (Int×Nat)}(h:Prs w g ps)(hg:g<w.heap.size)(hb:Below w.heap.size w w'):Prs w' g ps:=fun i hi=>
 ⟨(hb.cell (p:=⟨g,i*2,none⟩) hg).trans (h i hi).1,(hb.cell (p:=⟨g,i*2+1,none⟩) hg).trans (h i hi).2⟩
def prB (ps:List (Int×Nat)):List Int:=(ps.map fun p=>lo p.1 p.2).flatten
def zni (p:Int×Nat):Prop:=(0≤p.1∧p.1<zao p.2)∧1≤p.2∧p.2≤7
theorem zmn (ps:List (Int×Nat))(k:Nat)(h:k<ps.length):prB (ps.take (k+1))=prB (ps.take k)++lo (ps.getD k (0,0)).1 (ps.getD k (0,0)).2:=by
 unfold prB
 rw[List.take_succ_eq_append_getElem h,List.map_append,List.flatten_append];simp[List.getD,h]
theorem zm9 (ps:List (Int×Nat))(h:∀p∈ps,zni p):(prB ps).length≤7*ps.length:=by
 induction ps with
 | nil=>simp[prB]
 | cons p ps ih=>
  have h1:=ih (fun q hq=>h q (List.mem_cons_of_mem _ hq))
  have h2:=(h p (by simp)).2.2
  unfold prB at*
  simp only[List.map_cons,List.flatten_cons,List.length_append,zan,List.length_cons]
  omega
theorem znL {v:Int}{n:Nat}:∀x∈lo v n,0≤x∧x<256:=fun x hx=>by
 obtain⟨i,_,rfl⟩:=List.mem_map.1 hx
 omega
theorem zls (g:Nat)(ps:List (Int×Nat))(w:World)(hp:Prs w g ps)(hg:g<w.heap.size)(hok:∀p∈ps,zni p)(hl:ps.length≤20):
  Calls Tryz.prog 106 #[.slice (some (xQ g 0)) ps.length ps.length] w fun e w'=>∃r,e=.returned r∧w'.ownsRow w.heap.size 5 1 r (prB ps).length ((prB ps).map (Value.int .u8))∧Below w.heap.size w w':=by
 have HP:=xh hp
 have HG:Hid (g<w.heap.size):=hg
 have HO:=xh hok
 clear hp hg hok
 go_enter Tryz.func106,Tryz.ntmps106
 go_wp2_with fail
 go_loopw [3,10] (fun v i wr=>∃(k:Nat) (u:Value),k≤ps.length∧i=xI k∧u=v∧wr.ownsRow w.heap.size 5 1 u (prB (ps.take k)).length ((prB (ps.take k)).map (Value.int .u8))∧Below w.heap.size w wr) (fun _ i _=>ps.length-(intOf i).toNat)
 case atStart=>exact⟨0,_,Nat.zero_le _,rfl,rfl,World.ownsRow_nil _ _ _ _,Below.refl _ _⟩
 case round=>
  obtain⟨k,u,hk,rfl,rfl,hrow,hbel⟩:=hrel
  have HR:=xh hrow
  have HB:=xh hbel
  have HS:Hid (w.heap.size≤wr.heap.size):=hbel.size
  clear hrow hbel
  by_cases hlt:k<ps.length
  ·obtain⟨p0,p1⟩:=(HP.out.below HG.out HB.out) k hlt
   have hst:=zmn ps k hlt
   have hmem:ps.getD k (0,0)∈ps:=by rw[show ps.getD k (0,0)=ps[k]by simp[List.getD,hlt]];exact List.getElem_mem hlt
   have hq:=HO.out _ hmem
   obtain⟨⟨y,n⟩,hy⟩:∃p,ps.getD k (0,0)=p:=⟨_,rfl⟩
   rw[hy]at p0 p1 hst hq
   have HST:=xh hst
   have HQ:=xh hq
   have hlen:(prB (ps.take k)).length≤140:=by
    have:=zm9 (ps.take k) (fun q hq=>HO.out q (List.take_subset _ _ hq))
    rw[List.length_take]at this
    omega
   obtain⟨P,hP⟩:∃P,prB (ps.take k)=P:=⟨_,rfl⟩
   rw[hP]at HR HST hlen
   have HL:=xh hlen
   clear hst hq hmem hy hlen hP
   simp only at p0 p1
   have hal:Below wr.heap.size wr (wr.alloc (.cells #[xI y,xI n] 154)):=(Below.refl _ wr).alloc xl _
   have HA:=xh hal
   clear hal
   go_wp2_with fail
   refine(zdP y n _ HQ.out.1 HQ.out.2.1 HQ.out.2.2).mono ?_
   rintro e w5 ⟨r5,rfl,hr5,hb5⟩
   have HB5:Hid (Below wr.heap.size wr w5):=HA.out.trans (hb5.mono HA.out.size)
   have T5:Hid (Bs w5 r5 (lo y n)):=zaq (xs:=lo y n) hr5 znL (by rw[zan];have:=HQ.out.2.2;omega)
   have HR5:=xh (zae HR.out HB5.out)
   have HC5:Hid (Below w.heap.size w w5):=HB.out.trans (HB5.out.mono HS.out)
   clear hr5 hb5 p0 p1
   go_wp2_with (at_builtin;(skip;refine za7 rfl (.tmp 22) (.tmp 23) rfl w.heap.size P (lo y n) HR5.out T5.out (by have:=HL.out;have:=HQ.out.2.2;rw[zan];omega) HC5.out.size ?_;intro v6 w6 ho hb hs;have HR6:=xh ho;have HC6:=xh (HC5.out.trans hb);clear ho hb hs))
   go_roundw
   case rel=>exact⟨k+1,_,by omega,by go_num,rfl,by rw[HST.out];exact HR6.out,HC6.out⟩
   case measure=>simp[intOf];omega
  ·obtain rfl:k=ps.length:=by omega
   go_wp2_with fail
   go_ret
   exact⟨_,rfl,by have:=HR.out;rw[List.take_length]at this;exact this,HB.out⟩
theorem zb2 (n m:Int)(Q:Bool)(hQ:Q=true↔0≤n∧n≤m)(w:World):
  Calls Tryz.prog 137 #[xI n,xI m] w fun e w'=>e=.returned (.bool Q)∧w=w':=by
 by_cases h0:0≤n
 ·by_cases h1:n≤m
  ·obtain rfl:Q=true:=hQ.2 ⟨h0,h1⟩
   clear hQ
   go_enter Tryz.func137,Tryz.ntmps137
   go_wp2_with fail
   go_ret
   exact⟨rfl,rfl⟩
  ·obtain rfl:Q=false:=by
    cases Q with
    | false=>rfl
    | true=>exact absurd (hQ.1 rfl).2 h1
   have d9:decide (n≤m)=false:=decide_eq_false h1
   clear hQ
   go_enter Tryz.func137,Tryz.ntmps137
   go_wp2_with fail
   go_ret
   exact⟨rfl,rfl⟩
 ·obtain rfl:Q=false:=by
   cases Q with
   | false=>rfl
   | true=>exact absurd (hQ.1 rfl).1 h0
  have d9:decide (0≤n)=false:=decide_eq_false h0
  clear hQ
  go_enter Tryz.func137,Tryz.ntmps137
  go_wp2_with fail
  go_ret
  exact⟨rfl,rfl⟩
theorem zbx (n:Int)(Q:Bool)(hQ:Q=true↔0≤n∧n<64)(w:World):
  Calls Tryz.prog 136 #[xI n] w fun e w'=>e=.returned (.bool Q)∧w=w':=by
 have cU:=zb2 n 63 Q (hQ.trans (by omega))
 clear hQ
 go_enter Tryz.func136,Tryz.ntmps136
 go_wp2_with fail
 refine(cU _).mono ?_
 rintro e w1 ⟨rfl,hw⟩
 subst hw
 go_wp2_with fail
 go_ret
 exact⟨rfl,rfl⟩
theorem zcU (s d t n:Int)(x:ByteArray)(w:World):Calls Tryz.prog 105 #[.agg (xA s d t n (.string x))] w fun e w'=>e=.returned (xI (kP s d t n x))∧Below w.heap.size w w':=by
 have HB:Hid (Below w.heap.size w (w.alloc (.cells (xA s d t n (.string x)) 48))):=xr.alloc xl _
 by_cases h0:0≤s∧s<64
 ·skip
  by_cases h1:0≤d∧d<64
  ·skip
   by_cases h2:0≤t∧t≤255
   ·skip
    by_cases h3:0≤n∧n≤65535
    ·skip
     by_cases h4:(x.size:Int)≤256
     ·skip
      rw[show kP s d t n x=0 from if_pos ⟨h0,h1,h2,h3,by omega⟩]
      have d9:decide ((x.size:Int)>256)=false:=decide_eq_false (by omega)
      have c0:=fun W=>zbx s true ⟨fun _=>h0,fun _=>rfl⟩ W
      have c1:=fun W=>zbx d true ⟨fun _=>h1,fun _=>rfl⟩ W
      have c2:=fun W=>zb2 t 255 true ⟨fun _=>h2,fun _=>rfl⟩ W
      have c3:=fun W=>zb2 n 65535 true ⟨fun _=>h3,fun _=>rfl⟩ W
      clear h0 h1 h2 h3
      go_enter Tryz.func105,Tryz.ntmps105
      go_wp2_with fail
      refine(c0 _).mono ?_
      rintro e w0 ⟨rfl,hw⟩
      subst hw
      go_wp2_with fail
      refine(c1 _).mono ?_
      rintro e w1 ⟨rfl,hw⟩
      subst hw
      go_wp2_with fail
      refine(c2 _).mono ?_
      rintro e w2 ⟨rfl,hw⟩
      subst hw
      go_wp2_with fail
      refine(c3 _).mono ?_
      rintro e w3 ⟨rfl,hw⟩
      subst hw
      go_wp2_with fail
      go_ret
      exact⟨rfl,HB.out⟩
     ·skip
      rw[show kP s d t n x=1 from if_neg (fun h=>h4 (by have:=h.2.2.2.2;omega))]
      have d9:decide ((x.size:Int)>256)=true:=decide_eq_true (by omega)
      have c0:=fun W=>zbx s true ⟨fun _=>h0,fun _=>rfl⟩ W
      have c1:=fun W=>zbx d true ⟨fun _=>h1,fun _=>rfl⟩ W
      have c2:=fun W=>zb2 t 255 true ⟨fun _=>h2,fun _=>rfl⟩ W
      have c3:=fun W=>zb2 n 65535 true ⟨fun _=>h3,fun _=>rfl⟩ W
      clear h0 h1 h2 h3
      go_enter Tryz.func105,Tryz.ntmps105
      go_wp2_with fail
      refine(c0 _).mono ?_
      rintro e w0 ⟨rfl,hw⟩
      subst hw
      go_wp2_with fail
      refine(c1 _).mono ?_
      rintro e w1 ⟨rfl,hw⟩
      subst hw
      go_wp2_with fail
      refine(c2 _).mono ?_
      rintro e w2 ⟨rfl,hw⟩
      subst hw
      go_wp2_with fail
      refine(c3 _).mono ?_
      rintro e w3 ⟨rfl,hw⟩
      subst hw
      go_wp2_with fail
      go_ret
      exact⟨rfl,HB.out⟩
    ·skip
     rw[show kP s d t n x=1 from if_neg (fun h=>h3 h.2.2.2.1)]
     have c0:=fun W=>zbx s true ⟨fun _=>h0,fun _=>rfl⟩ W
     have c1:=fun W=>zbx d true ⟨fun _=>h1,fun _=>rfl⟩ W
     have c2:=fun W=>zb2 t 255 true ⟨fun _=>h2,fun _=>rfl⟩ W
     have c3:=fun W=>zb2 n 65535 false ⟨fun h=>(by cases h),fun h=>absurd h h3⟩ W
     clear h0 h1 h2 h3
     go_enter Tryz.func105,Tryz.ntmps105
     go_wp2_with fail
     refine(c0 _).mono ?_
     rintro e w0 ⟨rfl,hw⟩
     subst hw
     go_wp2_with fail
     refine(c1 _).mono ?_
     rintro e w1 ⟨rfl,hw⟩
     subst hw
     go_wp2_with fail
     refine(c2 _).mono ?_
     rintro e w2 ⟨rfl,hw⟩
     subst hw
     go_wp2_with fail
     refine(c3 _).mono ?_
     rintro e w3 ⟨rfl,hw⟩
     subst hw
     go_wp2_with fail
     go_ret
     exact⟨rfl,HB.out⟩
   ·skip
    rw[show kP s d t n x=1 from if_neg (fun h=>h2 h.2.2.1)]
    have c0:=fun W=>zbx s true ⟨fun _=>h0,fun _=>rfl⟩ W
    have c1:=fun W=>zbx d true ⟨fun _=>h1,fun _=>rfl⟩ W
    have c2:=fun W=>zb2 t 255 false ⟨fun h=>(by cases h),fun h=>absurd h h2⟩ W
    clear h0 h1 h2
    go_enter Tryz.func105,Tryz.ntmps105
    go_wp2_with fail
    refine(c0 _).mono ?_
    rintro e w0 ⟨rfl,hw⟩
    subst hw
    go_wp2_with fail
    refine(c1 _).mono ?_
    rintro e w1 ⟨rfl,hw⟩
    subst hw
    go_wp2_with fail
    refine(c2 _).mono ?_
    rintro e w2 ⟨rfl,hw⟩
    subst hw
    go_wp2_with fail
    go_ret
    exact⟨rfl,HB.out⟩
  ·skip
   rw[show kP s d t n x=1 from if_neg (fun h=>h1 h.2.1)]
   have c0:=fun W=>zbx s true ⟨fun _=>h0,fun _=>rfl⟩ W
   have c1:=fun W=>zbx d false ⟨fun h=>(by cases h),fun h=>absurd h h1⟩ W
   clear h0 h1
   go_enter Tryz.func105,Tryz.ntmps105
   go_wp2_with fail
   refine(c0 _).mono ?_
   rintro e w0 ⟨rfl,hw⟩
   subst hw
   go_wp2_with fail
   refine(c1 _).mono ?_
   rintro e w1 ⟨rfl,hw⟩
   subst hw
   go_wp2_with fail
   go_ret
   exact⟨rfl,HB.out⟩
 ·skip
  rw[show kP s d t n x=1 from if_neg (fun h=>h0 h.1)]
  have c0:=fun W=>zbx s false ⟨fun h=>(by cases h),fun h=>absurd h h0⟩ W
  clear h0
  go_enter Tryz.func105,Tryz.ntmps105
  go_wp2_with fail
  refine(c0 _).mono ?_
  rintro e w0 ⟨rfl,hw⟩
  subst hw
  go_wp2_with fail
  go_ret
  exact⟨rfl,HB.out⟩
theorem zkf (s d t n:Int)(x:ByteArray)(w:World)(h:¬PkOk s d t n x):
  Calls Tryz.prog 82 #[.agg (xA s d t n (.string x))] w fun e w'=>e=.returned (.tuple #[xS,xI 1])∧Below w.heap.size w w':=by
 have cR:=fun W=>zcU s d t n x W
 rw[show kP s d t n x=1 from if_neg h]at cR
 have HB:Hid (Below w.heap.size w (w.alloc (.cells (xA s d t n (.string x)) 48))):=xr.alloc xl _
 go_enter Tryz.func82,Tryz.ntmps82
 go_wp2_with fail
 refine(cR _).mono ?_
 rintro e V1 ⟨rfl,hb⟩
 have HB2:=xh (HB.out.trans (hb.mono HB.out.size))
 clear hb cR
 go_wp2_with fail
 go_ret2
 exact⟨rfl,HB2.out⟩
theorem zi8 (s d t n:Int)(x:ByteArray)(w:World)(h:PkOk s d t n x):
  Calls Tryz.prog 82 #[.agg (xA s d t n (.string x))] w fun e w'=>(∃r,e=.returned (.tuple #[r,xI 0])∧w'.ownsRow w.heap.size 5 1 r (pkB s d t n x).length ((pkB s d t n x).map (Value.int .u8)))∧Below w.heap.size w w':=by
 have cR:=fun W=>zcU s d t n x W
 rw[show kP s d t n x=0 from if_pos h]at cR
 have HB:Hid (Below w.heap.size w (w.alloc (.cells (xA s d t n (.string x)) 48))):=xr.alloc xl _
 have OA:=xh (za1 w s d t n x 48 w.heap.size rfl)
 have HP:Hid (∀p∈[(s,1),(d,1),(t,1),(n,2),((x.size:Int),2)],zni p):=fun p hp=>by
  obtain⟨h1,h2,h3,h4,h5⟩:=h
  simp only[List.mem_cons,List.not_mem_nil,or_false]at hp
  rcases hp with rfl|rfl|rfl|rfl|rfl
  ·exact⟨⟨h1.1,show s<256*1 by omega⟩,(by decide:1≤1),(by decide:1≤7)⟩
  ·exact⟨⟨h2.1,show d<256*1 by omega⟩,(by decide:1≤1),(by decide:1≤7)⟩
  ·exact⟨⟨h3.1,show t<256*1 by omega⟩,(by decide:1≤1),(by decide:1≤7)⟩
  ·exact⟨⟨h4.1,show n<256*(256*1)by omega⟩,(by decide:1≤2),(by decide:2≤7)⟩
  ·exact⟨⟨Int.natCast_nonneg _,show(x.size:Int)<256*(256*1)by omega⟩,(by decide:1≤2),(by decide:2≤7)⟩
 have HD:Hid (prB [(s,1),(d,1),(t,1),(n,2),((x.size:Int),2)]=hdB s d t n x.size):=by
  obtain⟨h1,h2,h3,h4,h5⟩:=h
  have e:=znl (s:=s) (d:=d) (t:=t) (n:=n) (k:=(x.size:Int)) (by omega) (by omega) h3 h4 ⟨Int.natCast_nonneg _,by omega⟩ []
  rw[List.append_nil]at e
  show _=_
  rw[e]
  simp[prB]
 have HX:=xh h.2.2.2.2
 clear h
 go_enter Tryz.func82,Tryz.ntmps82
 go_wp2_with fail
 refine(cR _).mono ?_
 rintro e V1 ⟨rfl,hb⟩
 replace OA:=xh (OA.out.below hb)
 have HB2:=xh (HB.out.trans (hb.mono HB.out.size))
 clear hb cR
 obtain⟨⟨q0,q1,q2,q3,q4⟩,-⟩:=OA.out
 have hal:Below V1.heap.size V1 (V1.alloc (.cells #[xI s,xI 1,xI d,xI 1,xI t,xI 1,xI n,xI 2,xI (x.size:Int),xI 2] 154)):=(Below.refl _ V1).alloc xl _
 have hps:Prs (V1.alloc (.cells #[xI s,xI 1,xI d,xI 1,xI t,xI 1,xI n,xI 2,xI (x.size:Int),xI 2] 154)) V1.heap.size [(s,1),(d,1),(t,1),(n,2),((x.size:Int),2)]:=fun i hi=>by
  have:i=0∨i=1∨i=2∨i=3∨i=4:=by simp at hi;omega
  rcases this with rfl|rfl|rfl|rfl|rfl<;>simp[List.getD]
 have cW:=xh (zls V1.heap.size _ _ hps (by simp) HP.out (by simp))
 have HA:=xh hal
 clear hal hps
 go_wp2_with fail
 refine cW.out.mono ?_
 rintro e V2 ⟨r2,rfl,hr,hb⟩
 rw[HD.out]at hr
 have HB3:=xh ((HB2.out.trans (HA.out.mono HB2.out.size)).trans (hb.mono (by have:=HB2.out.size;simp;omega)))
 have OA2:=xh ((OA.out.below HA.out).below hb)
 have HR:=xh (zas hr (show w.heap.size≤_ by have:=HB2.out.size;simp;omega))
 clear hr hb q0 q1 q2 q3 q4 cW
 obtain⟨⟨q0,q1,q2,q3,q4⟩,-⟩:=OA2.out
 go_wp2_with (at_builtin;(skip;refine ziT rfl (.tmp 29) (.tmp 31) rfl w.heap.size (hdB s d t n x.size) HR.out x rfl (by have:=HX.out;simp[hdB];omega) HB3.out.size ?_;intro v4 w4 ho hb hs;have HR4:=xh ho;have HB4:=xh (HB3.out.trans hb);clear ho hb hs))
 go_ret2
 exact⟨⟨_,rfl,HR4.out⟩,HB4.out⟩
end Go.Proofs.YtjghebcnmoojmaaGreat
