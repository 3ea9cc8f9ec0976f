/- The reference's Int, and rows joined: Two heights, two levels: Types that are made as a program runs: Rows of structs, of whatever type: The document's examples -/
import Derived.Test.YtjghebcnmoojmaaGreatV01
import Derived.Test.YtjghebcnmoojmaaGreatV02
import Derived.Laws.AppendOwnNone
import Derived.Laws.StructEq
import Derived.ChangeMade
import Derived.Deep.Slices
import Derived.Deep.RegionLaw
import Derived.Maps.AppendAt
import Derived.Laws.OwnMore
import Derived.ArgAppend
set_option maxRecDepth 100000
set_option maxHeartbeats 32000000
namespace Go.Proofs.YtjghebcnmoojmaaGreat
open Go.RowKit MX
theorem znG (v:Int)(i:Nat)(h:i<8):IntKind.u64.wrap v/256^(8-1-i)%256=v/256^(8-1-i)%256:=by
 rw[IntKind.wrap_u64]
 have:i=0∨i=1∨i=2∨i=3∨i=4∨i=5∨i=6∨i=7:=by omega
 rcases this with rfl|rfl|rfl|rfl|rfl|rfl|rfl|rfl<;>simp only[Nat.reduceSub,Int.reducePow]<;>omega
theorem zlQ (V:Int)(_:0≤V):(V-V%256)/256=V/256:=by omega
theorem znu (V:Int)(h:V<0): -256<V.tmod 256∧V.tmod 256≤0∧(V.tmod 256<0→V.tmod 256+256=V%256)∧(¬V.tmod 256<0→V.tmod 256=V%256):=by
 have h1:=Int.tmod_add_mul_tdiv V 256
 have h2:=Int.tmod_lt_of_pos V (b:=256) (by omega)
 have h3:=Int.lt_tmod_of_pos V (b:=256) (by omega)
 have h4:V.tmod 256≤0:=by
  have:=Int.neg_tmod (-V) 256
  rw[Int.neg_neg]at this
  have h5:=Int.tmod_nonneg (a:= -V) 256 (by omega)
  omega
 refine⟨by omega,h4,fun _=>by omega,fun _=>by omega⟩
theorem ziX (V:Int):(V-V%256).tdiv 256=V/256:=by
 have:V-V%256=256*(V/256):=by omega
 rw[this,Int.mul_tdiv_cancel_left _ (by omega)]
def zcb (v j:Int):Int:=if j<0 then 0 else v/256^(7-j).toNat
theorem zgJ (v:Int)(k:Nat)(h:1≤k)(h7:k≤7):zcb v ((k:Int)-1)=zcb v k/256:=by
 unfold zcb
 rw[if_neg (by omega),if_neg (by omega),show(7-((k:Int)-1)).toNat=(7-(k:Int)).toNat+1 from by omega,Int.pow_succ,←Int.ediv_ediv_of_nonneg (by exact Int.pow_nonneg (by omega))]
theorem zjk (v:Int)(k:Nat)(h7:k≤7):zcb v k=v/256^(8-1-k):=by
 unfold zcb
 rw[if_neg (by omega),show(7-(k:Int)).toNat=8-1-k from by omega]
theorem zjL (v:Int)(k:Nat)(hv: -9223372036854775808≤v)(hv':v<9223372036854775808): -9223372036854775808≤zcb v k∧zcb v k<9223372036854775808:=by
 unfold zcb
 rw[if_neg (by omega)]
 have hp:(0:Int)<256^(7-(k:Int)).toNat:=Int.pow_pos (by omega)
 generalize (256:Int)^(7-(k:Int)).toNat=p at*
 refine⟨?_,?_⟩
 ·rcases Int.lt_or_le v 0 with h|h
  ·have:v≤v/p:=by
    rw[Int.le_ediv_iff_mul_le hp]
    have:v*p≤v*1:=Int.mul_le_mul_of_nonpos_left (by omega) (by omega)
    omega
   omega
  ·have:=Int.ediv_nonneg h (Int.le_of_lt hp);omega
 ·rcases Int.lt_or_le v 0 with h|h
  ·have:=Int.ediv_neg_of_neg_of_pos h hp;omega
  ·have:=Int.ediv_le_self p h;omega
theorem zfs (v:Int)(w:World)(hv: -9223372036854775808≤v)(hv':v<9223372036854775808):
  Calls Tryz.prog 88 #[xI v] w (znj (lo (IntKind.u64.wrap v) 8) w):=by
 obtain⟨i0,hi,hz0,hz1,hz2⟩:=info_parts Tryz.info5
 have h88:((8:Nat):Int)=8:=rfl
 go_enter Tryz.func88,Tryz.ntmps88
 go_wp2_with (at_make;go_must (refine wpList_make_full _ rfl _ _ 26 rfl w.heap.size 5 i0 (.int .u8 0) 1 Tryz.underlying26 hi hz0 hz1 _ _ _ _ 8 rfl rfl rfl rfl (by rw[hz2];omega) (by unfold maxLen;omega) (by simp) ?_);intro w1 hown hgrow)
 rw[zeg]at hown
 have hbel:Below w.heap.size w w1:=(xr.grown hgrow (by simp) (by simp))
 clear hgrow
 go_loopw [0,4,5] (fun x i _ wr=>∃j:Int,-1≤j∧j<8∧i=xI j∧x=xI (zcb v j)∧wr.ownsRow w.heap.size 5 1 (.slice (some (w.heap.size,0)) 8 8) 8 (row (zcu (fun i=>v/256^(8-1-i)%256) (j+1).toNat) 8)∧Below w.heap.size w wr) (fun _ i _ _=>(intOf i+1).toNat)
 case atStart=>
  refine⟨7,by omega,by omega,rfl,zcE ?_,?_,hbel⟩
  ·simp[zcb]
  ·rw[show((7:Int)+1).toNat=8 from rfl,zeI];simpa using hown
 case round=>
  clear hbel hown
  obtain⟨j,hj0,hj1,rfl,rfl,hown,hbel⟩:=hrel
  by_cases hlt:0≤j
  ·obtain⟨k,rfl⟩:=Int.eq_ofNat_of_zero_le hlt
   have hk8:k<8:=by omega
   rw[show((k:Int)+1).toNat=k+1 from by omega]at hown
   have hcell:=hown.cellAt k (by omega)
   rw[zcy _ _ _ hk8]at hcell
   have hfz:=hown.frozenAt k
   have hst:=xh (hown.stored k)
   have hb2:=xh hbel
   clear hown hbel
   obtain⟨bd1,bd2⟩:=zjL v k hv hv'
   have hat:=xh (zjk v k (by omega))
   have hnx:=xh (zgJ v k)
   generalize zcb v k=V at*
   have hz:k=0→zcb v ((k:Int)-1)=0:=fun h=>by subst h;rfl
   have HZ:=xh hz
   clear hz
   have fin:∀(L X:Int),L=V%256→((k=0∧X=0)∨(¬k=0∧X=V/256))→
     (∃j:Int,-1≤j∧j<8∧Value.int IntKind.i64 ((k:Int)-1)=xI j∧Value.int IntKind.i64 X=xI (zcb v j)∧(wr.setCell ⟨w.heap.size,k,none⟩ (.int .u8 L)).ownsRow w.heap.size 5 1 (.slice (some (w.heap.size,0)) 8 8) 8 (row (zcu (fun i=>v/256^(8-1-i)%256) (j+1).toNat) 8)∧Below w.heap.size w (wr.setCell ⟨w.heap.size,k,none⟩ (.int .u8 L))):=by
    intro L X hL hX
    refine⟨(k:Int)-1,by omega,by omega,rfl,zcE ?_,?_,hb2.out.setCell (by simp) _⟩
    ·rcases hX with ⟨h1,h2⟩|⟨h1,h2⟩
     ·rw[HZ.out h1,h2]
     ·rw[hnx.out (by omega) (by omega),h2]
    ·rw[show((k:Int)-1+1).toNat=k from by omega,←zhC,hL,hat.out]
     exact(hst.out _).1
   have FIN:=xh fin
   clear fin
   by_cases hV:0≤V
   ·by_cases hk0:k=0
    ·have hkb:((k:Int)==0)=true:=by rw[beq_iff_eq];omega
     have HK:=xh hk0
     clear hk0
     go_wp2
     go_roundw
     case rel=>exact FIN.out _ _ rfl (.inl ⟨HK.out,rfl⟩)
     case measure=>simp[intOf]
    ·have hkb:((k:Int)==0)=false:=by rw[beq_eq_false_iff_ne];omega
     have HK:=xh hk0
     clear hk0
     go_wp2
     go_roundw
     case rel=>exact FIN.out _ _ rfl (.inr ⟨HK.out,zlQ V hV⟩)
     case measure=>simp[intOf]
   ·obtain⟨t1,t2,t3,t4⟩:=znu V (by omega)
    have hex:=xh (ziX V)
    generalize hT:V.tmod 256=T at*
    by_cases hT0:T<0
    ·have e1:=t3 hT0
     have b1: -9223372036854775808≤V-(T+256):=by omega
     have HE:=xh e1
     clear e1 t3 t4
     by_cases hk0:k=0
     ·have hkb:((k:Int)==0)=true:=by rw[beq_iff_eq];omega
      have HK:=xh hk0
      clear hk0
      go_wp2
      go_roundw
      case rel=>exact FIN.out _ _ HE.out (.inl ⟨HK.out,rfl⟩)
      case measure=>simp[intOf]
     ·have hkb:((k:Int)==0)=false:=by rw[beq_eq_false_iff_ne];omega
      have HK:=xh hk0
      clear hk0
      go_wp2
      go_roundw
      case rel=>exact FIN.out _ _ HE.out (.inr ⟨HK.out,by rw[HE.out,hex.out]⟩)
      case measure=>simp[intOf]
    ·have e1:=t4 hT0
     have b1: -9223372036854775808≤V-T:=by omega
     have HE:=xh e1
     clear e1 t3 t4
     by_cases hk0:k=0
     ·have hkb:((k:Int)==0)=true:=by rw[beq_iff_eq];omega
      have HK:=xh hk0
      clear hk0
      go_wp2
      go_roundw
      case rel=>exact FIN.out _ _ HE.out (.inl ⟨HK.out,rfl⟩)
      case measure=>simp[intOf]
     ·have hkb:((k:Int)==0)=false:=by rw[beq_eq_false_iff_ne];omega
      have HK:=xh hk0
      clear hk0
      go_wp2
      go_roundw
      case rel=>exact FIN.out _ _ HE.out (.inr ⟨HK.out,by rw[HE.out,hex.out]⟩)
      case measure=>simp[intOf]
  ·obtain rfl:j= -1:=by omega
   have ho:=xh hown
   have hb2:=xh hbel
   clear hown hbel
   go_wp2
   go_ret
   refine⟨_,rfl,?_,hb2.out⟩
   have hr:=ho.out
   rw[show((-1:Int)+1).toNat=0 from rfl,zeV]at hr
   rw[zcB (fun i h=>(znG v i h).symm)]at hr
   exact zfJ hr (by omega) (fun i _=>by omega)
theorem zaa {w w':World}{v:Value}{xs:List Int}(h:Bs w v xs)(hb:Below w.heap.size w w'):Bs w' v xs:=by
 obtain⟨h1,h2,h3|⟨b,off,cap,h4,h5,h6⟩⟩:=h
 ·exact⟨h1,h2,.inl h3⟩
 ·refine⟨h1,h2,.inr ⟨b,off,cap,h4,h5,fun i hi=>?_⟩⟩
  have hc:=h6 i hi
  rw[hb.cell (World.block_lt_of_cell? w _ hc)]
  exact hc
theorem zaq {w:World}{base n:Nat}{v:Value}{xs:List Int}(h:w.ownsRow base 5 1 v n (xs.map (Value.int .u8)))(hx:∀x∈xs,0≤x∧x<256)(hn:xs.length≤9223372036854775807):Bs w v xs:=by
 have hl:xs.length=n:=by simpa using h.1
 refine⟨hx,hn,?_⟩
 rcases h.2 with ⟨h1,h2⟩|⟨g,cap,cur,rfl,_,hg,hnc,_,_,htake⟩
 ·left;exact⟨none,0,h1,fun _=>rfl,List.length_eq_zero_iff.1 (by omega)⟩
 ·right
  refine⟨g,0,cap,by rw[hl],by omega,fun i hi=>?_⟩
  rw[Nat.zero_add,h.cellAt i (by omega)]
  simp[List.getD,hi]
theorem World.ownsRow.len {w:World}{base n:Nat}{v:Value}{xs:List Int}(h:w.ownsRow base 5 1 v n (xs.map (Value.int .u8))):n=xs.length:=by simpa using h.1.symm
theorem zgv (xss:List (List Int))(k:Nat)(h:k<xss.length):(xss.take (k+1)).flatten=(xss.take k).flatten++xss.getD k []:=by
 rw[List.take_succ_eq_append_getElem h,List.flatten_append]
 simp[List.getD,h]
theorem zkg (xss:List (List Int))(k:Nat):(xss.take k).flatten.length≤xss.flatten.length:=by
 have:=congrArg (fun l=>(List.flatten l).length) (List.take_append_drop k xss)
 simp only[List.flatten_append,List.length_append]at this
 omega
theorem zdD {w:World}{b off:Nat}{xs:List Int}(hc:∀i,i<xs.length→w.cell? ⟨b,off+i,none⟩=some (.int .u8 (xs.getD i 0))):∀j u,(xs.map (Value.int .u8))[j]? =some u→w.cell? ((⟨b,off,none⟩:Addr).add j)=some u:=by
 intro j u h
 have hj:j<xs.length:=by
  rcases Nat.lt_or_ge j xs.length with h'|h'
  ·exact h'
  ·rw[List.getElem?_eq_none (by simpa using h')]at h;cases h
 have hadd:(⟨b,off,none⟩:Addr).add j=⟨b,off+j,none⟩:=by unfold Addr.add;split<;>simp_all
 rw[hadd,hc j hj]
 simp[hj]at h
 simp[List.getD,hj,h]
theorem ones (xs:List Int):∀u∈xs.map (Value.int .u8),u.oneCell'=true:=by
 intro u hu
 obtain⟨_,_,rfl⟩:=List.mem_map.1 hu
 rfl
def zfV (xs:List Int)(w:World)(e:Ending)(w':World):Prop:=∃r,e=.returned r∧w'.ownsRow w.heap.size 5 1 r xs.length (xs.map (Value.int .u8))∧(∀x∈xs,0≤x∧x<256)∧Below w.heap.size w w'
theorem zhH (g:Nat)(vs:List Value)(xss:List (List Int))(w:World)(hl:vs.length=xss.length)
  (hcell:∀i,i<vs.length→w.cell? ⟨g,i,none⟩=some (vs.getD i undef)) (hb:∀i,i<vs.length→Bs w (vs.getD i undef) (xss.getD i [])) (tot:xss.flatten.length≤1000) (h9:vs.length≤9):
  Calls Tryz.prog 17 #[.slice (some (xQ g 0)) vs.length vs.length] w (zfV xss.flatten w):=by
 obtain⟨i0,hi,hz0,hz1,hz2⟩:=info_parts Tryz.info5
 have hbytes:=xh (fun i (hi:i<vs.length)=>(hb i hi).1)
 have hl':vs.length≤xss.length:=by omega
 have HL:=xh hl
 clear hl
 go_enter Tryz.func17,Tryz.ntmps17
 go_wp2
 go_loopw [3,4] (fun v i wr=>∃k:Nat,k≤vs.length∧i=xI k∧wr.ownsRow w.heap.size 5 1 v (xss.take k).flatten.length ((xss.take k).flatten.map (Value.int .u8))∧Below w.heap.size w wr) (fun _ i _=>vs.length-(intOf i).toNat)
 case atStart=>exact⟨0,Nat.zero_le _,rfl,World.ownsRow_nil _ _ _ _,Below.refl _ _⟩
 case round=>
  obtain⟨k,hk,rfl,hown,hbel⟩:=hrel
  by_cases hlt:k<vs.length
  ·have hc:=hcell k hlt
   have hc1:wr.cell? ⟨g,k,none⟩=some (vs.getD k undef):=by rw[hbel.cell (World.block_lt_of_cell? w _ hc)];exact hc
   have hB:=zaa (hb k hlt) hbel
   have hbs:w.heap.size≤wr.heap.size:=hbel.size
   have hb2:=xh hbel
   have hfs:=xh (zgv xss k (by omega))
   have hle:=zkg xss (k+1)
   rw[hfs.out,List.length_append]at hle
   clear hcell hb hc hbel
   generalize vs.getD k undef=vk at*
   generalize xss.getD k []=xk at*
   obtain⟨_,_,⟨a,cap,rfl,hz,rfl⟩|⟨b,off,cap,rfl,hcap,hcs⟩⟩:=hB
   ·have ho:=xh hown
    clear hown
    cases a with
    | none=>
     obtain rfl:cap=0:=hz rfl
     clear hz
     go_wp2_with (at_builtin;go_must (refine wpList_append_own_none rfl (.tmp 11) (.tmp 15) 26 rfl w.heap.size 5 i0 1 Tryz.underlying26 hi _ _ _ rfl ho.out rfl ?_))
     go_roundw
     case rel=>exact⟨k+1,by omega,by go_num,by rw[hfs.out,List.append_nil];exact ho.out,hb2.out⟩
     case measure=>simp[intOf];omega
    | some x=>
     clear hz
     go_wp2_with (at_builtin;go_must (refine wpList_append_own _ rfl (.tmp 11) (.tmp 15) 26 rfl w.heap.size 5 i0 (.int .u8 0) 1 1 Tryz.underlying26 hi hz0 hz1 hz2 rfl (by decide) _ _ _ rfl ho.out x 0 cap [] rfl (by simp) (by simp) (by simp) (by unfold maxLen;omega) (by omega) hbs ?_);intro v' w1 hown1 hgrow _)
     go_roundw
     case rel=>exact⟨k+1,by omega,by go_num,by rw[hfs.out,List.append_nil];simpa using hown1,hb2.out.grown hgrow hbs (fun k hk=>(ho.out.lt k hk).1)⟩
     case measure=>simp[intOf];omega
   ·have ho:=xh hown
    have hnews:=xh (zdD hcs)
    clear hown hcs
    go_wp2_with (at_builtin;go_must (refine wpList_append_own _ rfl (.tmp 11) (.tmp 15) 26 rfl w.heap.size 5 i0 (.int .u8 0) 1 1 Tryz.underlying26 hi hz0 hz1 hz2 rfl (by decide) _ _ _ rfl ho.out ⟨b,off,none⟩ xk.length cap (xk.map (Value.int .u8)) rfl (by simp) hnews.out (ones xk) (by unfold maxLen;omega) (by omega) hbs ?_);intro v' w1 hown1 hgrow _)
    go_roundw
    case rel=>exact⟨k+1,by omega,by go_num,by rw[hfs.out,List.length_append,List.map_append];exact hown1,hb2.out.grown hgrow hbs (fun k hk=>(ho.out.lt k hk).1)⟩
    case measure=>simp[intOf];omega
  ·obtain rfl:k=vs.length:=by omega
   have ho:=xh hown
   have hb2:=xh hbel
   clear hown hbel hcell
   go_wp2
   go_ret
   refine⟨_,rfl,?_,?_,hb2.out⟩
   ·have hr:=ho.out
    have hl:=HL.out
    rw[hl,List.take_length]at hr
    exact hr
   have hl:=HL.out
   intro x hx
   obtain⟨l,hl1,hl2⟩:=List.mem_flatten.1 hx
   obtain⟨i,hi1,rfl⟩:=List.mem_iff_getElem.1 hl1
   have:=hbytes.out i (by omega)
   simp only[List.getD,hi1,List.getElem?_eq_getElem,Option.getD_some]at this
   exact this x hl2
theorem zaP {P:Program}{w:World}{d:Nat}{xs ys:Array Value}{f:Field}{fs:List Field}{x y:Value}{T:TypeId}{off:Nat}{e:Bool}
  (h:(f.name=="_",f.type,f.offset)=(false,T,off)) (ha:(isAgg T).run P w=.ok false w) (hx:xs[off]? =some x) (hy:ys[off]? =some y) (he:(Op.equalIn d T x y).run P w=.ok e w):
  (Op.eqFields d xs ys (f::fs)).run P w=if e then(Op.eqFields d xs ys fs).run P w else .ok false w:=by
 simp only[Prod.mk.injEq,beq_eq_false_iff_ne]at h
 obtain⟨h1,h2,h3⟩:=h
 have p:∀(zs:Array Value) (z:Value),zs[off]? =some z→(part T zs off).run P w=.ok z w:=by
  intro zs z hz
  simp only[part,Sem.run_bind,ha,Result.andThen_ok,Bool.false_eq_true,if_false,hz,Sem.run_pure]
 simp only[Op.eqFields,h2,h3]
 rw[if_pos h1]
 simp only[Sem.run_bind,p xs x hx,p ys y hy,he,Result.andThen_ok,Sem.run_ite,Sem.run_pure]
 cases e<;>simp
theorem zi2:Tryz.prog.underlying 59=some (.struct (Tryz.prog.fieldsOf 59)):=by kernel_rfl
theorem zhV:((Tryz.prog.fieldsOf 59).toList.map fun f=>(f.name=="_",f.type,f.offset))=[(false,4,0),(false,3,1),(false,3,2),(false,3,3),(false,3,4),(false,3,5)]:=by kernel_rfl
theorem zhk (n m:Bool)(t o r d i t' o' r' d' i':Int)(w:World):
  (Op.equalIn 10000 59 (.agg (xB n t o r d i)) (.agg (xB m t' o' r' d' i'))).run Tryz.prog w
   =.ok (n==m&&(t==t'&&(o==o'&&(r==r'&&(d==d'&&i==i'))))) w:=by
 rw[run_equalIn_agg w 9999 59 _ _ zi2 (by kernel_rfl)]
 have hf:=zhV
 generalize (Tryz.prog.fieldsOf 59).toList=fs at*
 have a3:(isAgg 3).run Tryz.prog w=.ok false w:=by kernel_rfl
 have a4:(isAgg 4).run Tryz.prog w=.ok false w:=by kernel_rfl
 obtain⟨f0,_,rfl,g0,hf⟩:=List.map_eq_cons_iff.1 hf
 obtain⟨f1,_,rfl,g1,hf⟩:=List.map_eq_cons_iff.1 hf
 obtain⟨f2,_,rfl,g2,hf⟩:=List.map_eq_cons_iff.1 hf
 obtain⟨f3,_,rfl,g3,hf⟩:=List.map_eq_cons_iff.1 hf
 obtain⟨f4,_,rfl,g4,hf⟩:=List.map_eq_cons_iff.1 hf
 obtain⟨f5,_,rfl,g5,hf⟩:=List.map_eq_cons_iff.1 hf
 obtain rfl:=List.map_eq_nil_iff.1 hf
 rw[zaP g0 a4 rfl rfl (run_equalIn_bool' w 9998 4 n m (by kernel_rfl)),zaP g1 a3 rfl rfl (run_equalIn_int w 9998 3 .i64 .i64 t t' (by kernel_rfl)),
  zaP g2 a3 rfl rfl (run_equalIn_int w 9998 3 .i64 .i64 o o' (by kernel_rfl)),zaP g3 a3 rfl rfl (run_equalIn_int w 9998 3 .i64 .i64 r r' (by kernel_rfl)),
  zaP g4 a3 rfl rfl (run_equalIn_int w 9998 3 .i64 .i64 d d' (by kernel_rfl)),zaP g5 a3 rfl rfl (run_equalIn_int w 9998 3 .i64 .i64 i i' (by kernel_rfl))]
 simp only[Op.eqFields,Sem.run_pure]
 cases n==m<;>cases t==t'<;>cases o==o'<;>cases r==r'<;>cases d==d'<;>cases i==i'<;>rfl
def eqH (n:Bool)(t o r d i:Int)(m:Bool)(t' o' r' d' i':Int):Bool:=n==m&&(t==t'&&(o==o'&&(r==r'&&(d==d'&&i==i'))))
theorem zbC {n:Bool}{t o r d i:Int}{m:Bool}{t' o' r' d' i':Int}:eqH n t o r d i m t' o' r' d' i'=true↔n=m∧t=t'∧o=o'∧r=r'∧d=d'∧i=i':=by
 simp[eqH]
theorem zcG (op:BinOp)(x y:Operand)(xs ys:Array Value)(w:World):(eqGuard op 59 x y (.agg xs) (.agg ys)).run Tryz.prog w=.ok () w:=
 run_eqGuard_agg w op 59 x y xs ys (by kernel_rfl)
theorem zg0 (n m:Bool)(t o r d i t' o' r' d' i':Int)(w:World):
  (binOp .eql 59 (.agg (xB n t o r d i)) (.agg (xB m t' o' r' d' i'))).run Tryz.prog w
   =.ok (.bool (eqH n t o r d i m t' o' r' d' i')) w:=by
 rw[run_eql_struct,zhk];rfl
theorem zpO (n m:Bool)(t o r d i t' o' r' d' i':Int)(w:World):
  (binOp .neq 59 (.agg (xB n t o r d i)) (.agg (xB m t' o' r' d' i'))).run Tryz.prog w
   =.ok (.bool (!eqH n t o r d i m t' o' r' d' i')) w:=by
 rw[run_neq_struct,zhk];rfl
theorem zjF:Tryz.prog.underlying 61=some (.struct (Tryz.prog.fieldsOf 61)):=by kernel_rfl
theorem zhd:((Tryz.prog.fieldsOf 61).toList.map fun f=>(f.name=="_",f.type,f.offset))=[(false,3,0),(false,3,1),(false,3,2)]:=by kernel_rfl
def eqL (t o r t' o' r':Int):Bool:=t==t'&&(o==o'&&r==r')
theorem zgB {t o r t' o' r':Int}:eqL t o r t' o' r'=true↔t=t'∧o=o'∧r=r':=by simp[eqL]
theorem zmd (t o r t' o' r':Int)(w:World):
  (Op.equalIn 10000 61 (.agg #[xI t,xI o,xI r]) (.agg #[xI t',xI o',xI r'])).run Tryz.prog w=.ok (eqL t o r t' o' r') w:=by
 rw[run_equalIn_agg w 9999 61 _ _ zjF (by kernel_rfl)]
 have hf:=zhd
 generalize (Tryz.prog.fieldsOf 61).toList=fs at*
 have a3:(isAgg 3).run Tryz.prog w=.ok false w:=by kernel_rfl
 obtain⟨f1,_,rfl,g1,hf⟩:=List.map_eq_cons_iff.1 hf
 obtain⟨f2,_,rfl,g2,hf⟩:=List.map_eq_cons_iff.1 hf
 obtain⟨f3,_,rfl,g3,hf⟩:=List.map_eq_cons_iff.1 hf
 obtain rfl:=List.map_eq_nil_iff.1 hf
 rw[zaP g1 a3 rfl rfl (run_equalIn_int w 9998 3 .i64 .i64 t t' (by kernel_rfl)),zaP g2 a3 rfl rfl (run_equalIn_int w 9998 3 .i64 .i64 o o' (by kernel_rfl)),zaP g3 a3 rfl rfl (run_equalIn_int w 9998 3 .i64 .i64 r r' (by kernel_rfl))]
 simp only[Op.eqFields,Sem.run_pure,eqL]
 cases t==t'<;>cases o==o'<;>cases r==r'<;>rfl
theorem zdJ (op:BinOp)(x y:Operand)(xs ys:Array Value)(w:World):(eqGuard op 61 x y (.agg xs) (.agg ys)).run Tryz.prog w=.ok () w:=
 run_eqGuard_agg w op 61 x y xs ys (by kernel_rfl)
theorem ziR (t o r t' o' r':Int)(w:World):
  (binOp .eql 61 (.agg #[xI t,xI o,xI r]) (.agg #[xI t',xI o',xI r'])).run Tryz.prog w=.ok (.bool (eqL t o r t' o' r')) w:=by
 rw[run_eql_struct,zmd];rfl
theorem zp7 {P:Program}{t:TypeId}{u:TypeDesc}(ht:¬t<P.types.size)(h:P.underlying t=some u):
  ∃d i,Made.reckon (Made.infoAt P.toTables 99) d=some i∧i.desc=u∧P.cellsOf t=i.size∧P.underlyingId t=t∧u.tableOnly=false:=by
 unfold Program.underlying at h
 cases hi:P.info? t with
 | none=>rw[hi]at h;cases h
 | some i=>
  have hto:=Tables.info?_beyond ht hi
  have hnn:∀n v,i.desc≠.named n v:=fun n v e=>by rw[e]at hto;cases hto
  rw[hi]at h
  have hu:i.desc=u:=by
   split at h
   ·rename_i n v hh
    cases hh
    exact absurd rfl (hnn _ _)
   ·rename_i j hj hh
    cases hh
    simpa using h
   ·cases ‹some i=none›
  have hid:P.underlyingId t=t:=by
   unfold Program.underlyingId
   rw[hi]
   split
   ·rename_i n v hh
    cases hh
    exact absurd rfl (hnn _ _)
   ·rfl
  have hc:P.cellsOf t=i.size:=by unfold Program.cellsOf;rw[hi];rfl
  unfold Tables.info? at hi
  rw[if_neg ht]at hi
  unfold Made.depth at hi
  unfold Made.infoAt at hi
  rw[if_neg ht]at hi
  simp only[Option.bind_eq_some_iff]at hi
  obtain⟨d,_,hr⟩:=hi
  exact⟨d,i,hr,hu,hc,hid,by rw[←hu];exact hto⟩
section
open Go.WideShapes Go.ChangeShapes
structure RowT where
 α:Type
 d:α
 cl:α→List Value
 K:Nat
 T:TypeId
 SL:TypeId
 zero:Value
 bytes:Nat
 hcl:∀y,(cl y).length=K
 hK:0<K
 hone:∀y,∀u∈cl y,u.oneCell'=true
 hSL:Tryz.prog.underlying SL=some (.slice T)
 hinfo:(Tryz.prog.info? T).map (fun i=>(i.zero,i.size,i.bytes))=some (some zero,K,bytes)
 hz:zero.cells.size=K
 hb:bytes≤4096
 hc:Tryz.prog.cellsOf T=K
variable (R:RowT)
theorem zdk (b off k:Nat):(⟨b,off,none⟩:Addr).add k=⟨b,off+k,none⟩:=by unfold Addr.add;split<;>simp_all
def zaA (ys:List R.α):List Value:=ys.flatMap R.cl
theorem zbS (ys:List R.α):(zaA R ys).length=ys.length*R.K:=by
 induction ys with
 | nil=>simp[zaA]
 | cons y ys ih=>simp only[zaA,List.flatMap_cons,List.length_append,List.length_cons,R.hcl]at *;rw[ih,Nat.succ_mul];omega
theorem zdi (xs ys:List R.α):zaA R (xs++ys)=zaA R xs++zaA R ys:=by simp[zaA]
theorem zf8 (y:R.α):zaA R [y]=R.cl y:=by simp[zaA]
theorem zhR:∀(ys:List R.α) (i j:Nat),i<ys.length→j<R.K→(zaA R ys)[i*R.K+j]? =(R.cl (ys.getD i R.d))[j]?
 | [],i,j,h,_=>by simp at h
 | y::ys,0,j,_,hj=>by
  simp only[zaA,List.flatMap_cons,Nat.zero_mul,Nat.zero_add,List.getD_cons_zero]
  rw[List.getElem?_append_left (by rw[R.hcl];exact hj)]
 | y::ys,i+1,j,h,hj=>by
  have ih:=zhR ys i j (by simpa using h) hj
  simp only[zaA,List.flatMap_cons,List.getD_cons_succ]at*
  rw[List.getElem?_append_right (by rw[R.hcl,Nat.succ_mul];omega),R.hcl,show(i+1)*R.K+j-R.K=i*R.K+j by rw[Nat.succ_mul];omega]
  exact ih
theorem ze1 (ys:List R.α):∀u∈zaA R ys,u.oneCell'=true:=by
 intro u hu
 obtain⟨y,_,hy⟩:=List.mem_flatMap.1 hu
 exact R.hone y u hy
def GC (w:World)(b o:Nat)(y:R.α):Prop:=∀j,j<R.K→w.cell? ⟨b,o+j,none⟩=(R.cl y)[j]?
theorem GC.low {R:RowT}{w w':World}{b o B:Nat}{y:R.α}(h:GC R w b o y)(hb:b<B)(hB:Below B w w'):GC R w' b o y:=fun j hj=>by
 rw[hB.cell (p:=⟨b,o+j,none⟩) hb];exact h j hj
theorem zcT (w:World)(y:R.α)(g:Nat)(hg:g=w.heap.size)(T:TypeId):GC R (w.alloc (.cells (R.cl y).toArray T)) g 0 y:=fun j hj=>by
 subst hg
 rw[Nat.zero_add,cell_of_row _ _ _ _ _ _ (heap_alloc_new w _)]
 simp
def Gs (w:World)(v:Value)(ys:List R.α):Prop:=
 (∃a cap,v=.slice a 0 cap∧(a=none→cap=0)∧ys=[])∨
 ∃b off cap,v=.slice (some ⟨b,off,none⟩) ys.length cap∧ys.length≤cap∧b<w.heap.size∧∀i,i<ys.length→GC R w b (off+i*R.K) (ys.getD i R.d)
variable {R}
theorem Gs.below {w w':World}{v:Value}{ys:List R.α}(h:Gs R w v ys)(hb:Below w.heap.size w w'):Gs R w' v ys:=by
 rcases h with h|⟨b,off,cap,h1,h2,h3,h4⟩
 ·exact .inl h
 ·exact .inr ⟨b,off,cap,h1,h2,Nat.lt_of_lt_of_le h3 hb.size,fun i hi=>(h4 i hi).low h3 hb⟩
theorem Gs.alloc {w:World}{v:Value}{ys:List R.α}(h:Gs R w v ys)(O:Obj):Gs R (w.alloc O) v ys:=h.below (xr.alloc xl O)
theorem Gs.form {w:World}{v:Value}{ys:List R.α}(h:Gs R w v ys):∃a c,v=.slice a ys.length c:=by
 rcases h with ⟨a,cap,h1,_,rfl⟩|⟨b,off,cap,h1,_⟩
 ·exact⟨a,cap,h1⟩
 ·exact⟨_,_,h1⟩
theorem zmB (w:World):Gs R w xS []:=.inl ⟨none,0,rfl,fun _=>rfl,rfl⟩
theorem Gs.at {w:World}{a:Option Addr}{c:Nat}{ys:List R.α}(h:Gs R w (.slice a ys.length c) ys){i:Nat}(hi:i<ys.length):∃b off,a=some ⟨b,off,none⟩∧b<w.heap.size∧GC R w b (off+i*R.K) (ys.getD i R.d):=by
 rcases h with ⟨a',cap,hv,_,rfl⟩|⟨b,off,cap,hv,_,hB,hc⟩
 ·simp at hi
 ·simp only[Value.slice.injEq]at hv
  exact⟨b,off,hv.1,hB,hc i hi⟩
theorem Gs.all {w:World}{b off c:Nat}{ys:List R.α}(h:Gs R w (.slice (some ⟨b,off,none⟩) ys.length c) ys){i:Nat}(hi:i<ys.length):b<w.heap.size∧GC R w b (off+i*R.K) (ys.getD i R.d):=by
 obtain⟨b',off',h1,h2⟩:=h.at hi
 simp only[Option.some.injEq,Addr.mk.injEq,and_true]at h1
 obtain⟨rfl,rfl⟩:=h1
 exact h2
theorem zbf {w:World}{base n g cap:Nat}{xs:List Value}{e:TypeId}{size:Nat}(h:w.ownsRow base e size (.slice (some (xQ g 0)) n cap) n xs)(j:Nat)(hj:j<n*size):w.cell? ⟨g,j,none⟩=xs[j]? :=h.cellAt j hj
theorem zdu {w:World}{base n:Nat}{v:Value}{ys:List R.α}(h:w.ownsRow base R.T R.K v n (zaA R ys)):Gs R w v ys∧n=ys.length:=by
 have hn:n=ys.length:=by
  have h1:=h.1
  rw[zbS]at h1
  exact(Nat.eq_of_mul_eq_mul_right R.hK h1).symm
 subst hn
 refine⟨?_,rfl⟩
 rcases h.2 with ⟨h1,h2⟩|⟨g,cap,cur,rfl,_,hg,hnc,_,_,htake⟩
 ·exact .inl ⟨none,0,h1,fun _=>rfl,List.length_eq_zero_iff.1 h2⟩
 ·refine .inr ⟨g,0,cap,rfl,hnc,(Array.getElem?_eq_some_iff.1 hg).1,fun i hi j hj=>?_⟩
  have hlt:i*R.K+j<ys.length*R.K:=by
   have:(i+1)*R.K≤ys.length*R.K:=Nat.mul_le_mul_right _ hi
   rw[Nat.succ_mul]at this
   omega
  rw[Nat.zero_add,zbf h (i*R.K+j) hlt,zhR R ys i j hi hj]
theorem zhs {ys zs:List R.α}(hl:ys.length=zs.length)(h:∀i,i<ys.length→ys.getD i R.d=zs.getD i R.d):ys=zs:=by
 refine List.ext_getElem hl fun i h1 h2=>?_
 have:=h i h1
 simpa [List.getD,h1,h2]using this
theorem zat (w:World)(base:Nat):w.ownsRow base R.T R.K xS 0 (zaA R []):=⟨by simp[zaA],.inl ⟨rfl,rfl⟩⟩
theorem zae {w w':World}{base size n:Nat}{e:TypeId}{v:Value}{xs:List Value}(h:w.ownsRow base e size v n xs)(hb:Below w.heap.size w w'):w'.ownsRow base e size v n xs:=by
 refine⟨h.1,?_⟩
 rcases h.2 with h2|⟨g,cap,cur,rfl,h3,hg,rest⟩
 ·exact .inl h2
 ·exact .inr ⟨g,cap,cur,rfl,h3,(hb.block g (Array.getElem?_eq_some_iff.1 hg).1).trans hg,rest⟩
theorem zas {w:World}{base B size n:Nat}{e:TypeId}{v:Value}{xs:List Value}(h:w.ownsRow base e size v n xs)(hB:B≤base):w.ownsRow B e size v n xs:=by
 rcases h.2 with h2|⟨g,cap,cur,h2,h3,h4⟩
 ·exact⟨h.1,.inl h2⟩
 ·exact⟨h.1,.inr ⟨g,cap,cur,h2,Nat.le_trans hB h3,h4⟩⟩
theorem zap {w:World}{base size n:Nat}{e:TypeId}{v:Value}{xs:List Value}(h:w.ownsRow base e size v n xs):∃a c,v=.slice a n c:=by
 rcases h.2 with ⟨rfl,rfl⟩|⟨g,cap,cur,rfl,_⟩
 ·exact⟨none,0,rfl⟩
 ·exact⟨_,_,rfl⟩
theorem zgZ {w:World}{S size n m g cap:Nat}{e:TypeId}{xs ys:List Value}(h:w.ownsRow S e size (.slice (some (xQ g 0)) (n+m) cap) (n+m) (xs++ys))(hx:xs.length=n*size):w.ownsRow S e size (.slice (some (xQ g 0)) n cap) n xs:=by
 refine⟨hx,?_⟩
 rcases h.2 with ⟨h1,_⟩|⟨g',cap',cur,hv,hb,hg,hnc,hcm,hcs,htake⟩
 ·cases h1
 ·simp only[Value.slice.injEq,Option.some.injEq,Addr.mk.injEq,and_true,true_and]at hv
  obtain⟨rfl,rfl⟩:=hv
  refine .inr ⟨g,cap,cur,rfl,hb,hg,by omega,hcm,hcs,?_⟩
  have h3:(cur.toList.take ((n+m)*size)).take (n*size)=(xs++ys).take (n*size):=by rw[htake]
  rw[List.take_take,Nat.min_eq_left (Nat.mul_le_mul_right _ (Nat.le_add_right _ _)),←hx,List.take_left]at h3
  rw[←hx];exact h3
theorem zbL {ρ:Operand→Value}{o:Oper}{s x:Operand}{T:TypeId}{v u r:Value}{w w':World}(ho:o.op=.call {callee:=.builtin .append,args:=#[s,x],argTypes:=#[T,T]})(hs:ρ s=v)(hx:ρ x=u)
  (hr:(Builtin.append_ #[T,T] o.type #[v,u]).run Tryz.prog w=.ok r w'):(execOp ρ o).run Tryz.prog w=.ok (.value r) w':=by
 unfold execOp
 simp only[ho,resolve,invoke,builtin,Sem.run_bind,Sem.run_pure,Result.andThen_ok,List.map_toArray,List.map_cons,List.map_nil,hs,hx,hr]
theorem zej (w:World)(ty:TypeId)(S:Nat)(v:Value)(xs:List R.α)(hown:w.ownsRow S R.T R.K v xs.length (zaA R xs))(b:Nat)(y:R.α)(hy:GC R w b 0 y)(hl:xs.length≤3000)(hS:S≤w.heap.size):
  ∃g cap w',(Builtin.append_ #[R.SL,R.SL] ty #[v,.slice (some (xQ b 0)) 1 1]).run Tryz.prog w=.ok (.slice (some (xQ g 0)) (xs.length+1) cap) w'∧w'.ownsRow S R.T R.K (.slice (some (xQ g 0)) (xs.length+1) cap) (xs++[y]).length (zaA R (xs++[y]))∧w.grownBy w' v.ownBlock∧w'.ownsRow S R.T R.K v xs.length (zaA R xs):=by
 obtain⟨i0,hi,hz0,hz1,hz2⟩:=info_parts R.hinfo
 have hzs:=R.hz
 have hbb:=R.hb
 have hpos:=R.hK
 have e:zaA R (xs++[y])=zaA R xs++R.cl y:=by rw[zdi,zf8]
 have e2:(xs++[y]).length=xs.length+1:=by simp
 have hnews:∀j u,(R.cl y)[j]? =some u→w.cell? (((xQ b 0):Addr).add j)=some u:=fun j u hj=>by
  have:=(List.getElem?_eq_some_iff.1 hj).1
  rw[R.hcl]at this
  rw[zdk,hy j this];exact hj
 have hone:∀u∈R.cl y,u.oneCell'=true:=R.hone y
 have hfl:=zbS R xs
 have hcl1:(R.cl y).length=1*R.K:=by rw[R.hcl,Nat.one_mul]
 have hby:(xs.length+1)*R.bytes≤140737488355328:=Nat.le_trans (Nat.mul_le_mul (show xs.length+1≤3001 by omega) hbb) (by decide)
 rw[e,e2]
 rcases hown.2 with ⟨rfl,h0⟩|⟨g,cap,cur,rfl,hg1,hg2,_⟩
 ·obtain⟨v',w',hr,h2,h3,_,_⟩:=run_append_own_at (P:=Tryz.prog) w S R.SL ty R.T i0 R.zero R.K R.bytes R.hSL hi hz0 hz1 hz2 hzs hpos xS xs.length (zaA R xs) hown (xQ b 0) 1 1 (R.cl y) hcl1 hnews hone (by unfold maxLen;omega) hby hS
  obtain⟨g,cap,rfl⟩:∃g cap,v'=.slice (some (xQ g 0)) (xs.length+1) cap:=by
   rcases h2.2 with ⟨_,h0⟩|⟨g,cap,_,rfl,_⟩
   ·omega
   ·exact⟨g,cap,rfl⟩
  exact⟨g,cap,w',hr,h2,h3,⟨hown.1,.inl ⟨rfl,h0⟩⟩⟩
 ·by_cases hroom:xs.length+1≤cap
  ·obtain⟨w',hr,h2,h3⟩:=run_append_fits (P:=Tryz.prog) w S R.SL ty R.T i0 R.K R.hSL hi hz1 g xs.length cap (zaA R xs) hown (xQ b 0) 1 1 (R.cl y) hcl1 hnews hone hroom
   exact⟨g,cap,w',hr,h2,h3,zgZ h2 hfl⟩
  ·obtain⟨v',w',hr,h2,h3⟩:=run_append_arg_grows (P:=Tryz.prog) w R.SL ty R.T i0 R.zero R.K R.bytes R.hSL hi hz0 hz1 hz2 hzs hpos (xQ g 0) xs.length cap (zaA R xs) hfl (hown.cells rfl) (xQ b 0) 1 1 (R.cl y) hcl1 hnews (by omega) (by unfold maxLen;omega) hby
   obtain⟨g',cap',rfl⟩:∃g cap,v'=.slice (some (xQ g 0)) (xs.length+1) cap:=by
    rcases h2.2 with ⟨_,h0⟩|⟨g,cap,_,rfl,_⟩
    ·omega
    ·exact⟨g,cap,rfl⟩
   exact⟨g',cap',w',hr,zas h2 hS,⟨h3.os,h3.tape,h3.output,h3.size,fun k hk _=>h3.block k hk (by simp)⟩,hown.kept h3 (.inr (by simp[Value.ownBlock]))⟩
theorem zeK {ops:Array Oper}{rest:List Oper}{o:Oper}{a:Act}{Q:Exit→Act→World→Prop}{W:World}(hgd:o.guard=none)(s x:Operand)
  (ho:o.op=.call {callee:=.builtin .append,args:=#[s,x],argTypes:=#[R.SL,R.SL]}) (w:World) (y:R.α) (T:TypeId) (hW:W=w.alloc (.cells (R.cl y).toArray T)) (S:Nat) (v:Value) (xs:List R.α)
  (hs:a.eval s=v) (hx:a.eval x=.slice (some (w.heap.size,0)) 1 1) (hown:w.ownsRow S R.T R.K v xs.length (zaA R xs)) (hl:xs.length≤3000) (hS:S≤w.heap.size)
  (h:∀g cap w',w'.ownsRow S R.T R.K (.slice (some (xQ g 0)) (xs.length+1) cap) (xs++[y]).length (zaA R (xs++[y]))→Below S w w'→wpList Tryz.prog ops Q rest (a.put o.dst (.slice (some (xQ g 0)) (xs.length+1) cap)) w'):wpList Tryz.prog ops Q (o::rest) a W:=by
 subst hW
 have hb:Below S w (w.alloc (.cells (R.cl y).toArray T)):=(Below.refl S w).alloc hS _
 obtain⟨g,cap,w',hr,h2,h3,_⟩:=zej (w.alloc (.cells (R.cl y).toArray T)) o.type S v xs (hown.alloc _) w.heap.size y (zcT R w y _ rfl T) hl (by simp;omega)
 refine wpList_plain hgd fun K hK=>?_
 unfold Oper.wp
 rw[zbL ho hs hx hr]
 exact hK _ _ (h g cap w' h2 (hb.grown h3 (by simp;omega) (fun k hk=>(hown.lt k hk).1)))
theorem zj9 {ops:Array Oper}{o:Oper}{a:Act}{W:World}{K:Act→World→Prop}{Q:Exit→Act→World→Prop}{E:Prop}(hg:o.guard=none)(s x:Operand)
  (ho:o.op=.call {callee:=.builtin .append,args:=#[s,x],argTypes:=#[R.SL,R.SL]}) (w:World) (y:R.α) (T:TypeId) (hW:W=w.alloc (.cells (R.cl y).toArray T)) (S:Nat) (v:Value) (xs:List R.α)
  (hs:a.eval s=v) (hx:a.eval x=.slice (some (w.heap.size,0)) 1 1) (hown:w.ownsRow S R.T R.K v xs.length (zaA R xs)) (hl:xs.length≤3000) (hS:S≤w.heap.size)
  (hK:∀g cap w',w'.ownsRow S R.T R.K (.slice (some (xQ g 0)) (xs.length+1) cap) (xs++[y]).length (zaA R (xs++[y]))→Below S w w'→K (a.put o.dst (.slice (some (xQ g 0)) (xs.length+1) cap)) w'):
  if Region.wanted o (yielded ops a.tmps)=true then Oper.wp Tryz.prog o a W K Q else E:=by
 have hw:Region.wanted o (yielded ops a.tmps)=true:=by simp[Region.wanted,hg]
 rw[if_pos hw]
 subst hW
 have hb:Below S w (w.alloc (.cells (R.cl y).toArray T)):=(Below.refl S w).alloc hS _
 obtain⟨g,cap,w',hr,h2,h3,_⟩:=zej (w.alloc (.cells (R.cl y).toArray T)) o.type S v xs (hown.alloc _) w.heap.size y (zcT R w y _ rfl T) hl (by simp;omega)
 unfold Oper.wp
 rw[zbL ho hs hx hr]
 exact hK g cap w' h2 (hb.grown h3 (by simp;omega) (fun k hk=>(hown.lt k hk).1))
def GX (row:Option Nat)(s k:Nat)(w w':World):Prop:=if k=s then w.grownBy w' row else Below w.heap.size w w'
def NewG (wo:World)(y:R.α):Ty:=fun u w=>∃b,u=.slice (some (xQ b 0)) 1 1∧wo.heap.size≤b∧GC R w b 0 y
theorem NewG.keeps {wo:World}{y:R.α}{row:Option Nat}(hrow:∀b,row=some b→b<wo.heap.size)(s k:Nat):T3.Keeps (GX row s) k (NewG wo y):=by
 rintro j _ u w w' ⟨b,h1,h2,h3⟩ hx
 have hlt:b<w.heap.size:=by
  have:=h3 0 R.hK
  have h4:(R.cl y)[0]? ≠none:=by rw[List.getElem?_eq_getElem (by rw[R.hcl];exact R.hK)];simp
  cases hq:(R.cl y)[0]? with
  | none=>exact absurd hq h4
  | some q=>rw[hq]at this;exact World.block_lt_of_cell? w ⟨b,0+0,none⟩ this
 refine⟨b,h1,h2,fun i hi=>?_⟩
 rw[←h3 i hi]
 unfold GX at hx
 by_cases hj:j=s
 ·rw[if_pos hj]at hx
  exact World.cell?_of_block (hx.block b hlt (fun e=>by have:=hrow b e.symm;omega))
 ·rw[if_neg hj]at hx
  exact hx.cell (p:=⟨b,0+i,none⟩) hlt
def NewGRow (S:Nat)(zs:List R.α)(n:Nat):Ty:=fun u w=>∃g cap,u=.slice (some (xQ g 0)) n cap∧w.ownsRow S R.T R.K u zs.length (zaA R zs)
theorem NewGRow.keeps {S n:Nat}{zs:List R.α}{row:Option Nat}(s:Nat):T3.Keeps (GX row s) s (NewGRow (R:=R) S zs n):=by
 rintro j hj u w w' ⟨g,cap,h1,h2⟩ hx
 unfold GX at hx
 rw[if_neg hj]at hx
 exact⟨g,cap,h1,zae h2 hx⟩
end
theorem zfd (w:World)(p:Option Addr)(c:Nat):(convert 26 9 (.slice p 0 c)).run Tryz.prog w=.ok (.string ByteArray.empty) w:=by
 cases p with
 | none=>exact run_convert_bytes_nil w 26 5 Tryz.underlying26 Tryz.underlying5 0 c 9 Tryz.underlying9
 | some x=>
  have hl:(loadCells x 0).run Tryz.prog w=.ok (([]:List Int).map (Value.int .u8)).toArray w:=run_loadCells_list (P:=Tryz.prog) w x [] (fun j v hj=>by cases hj)
  rw[run_convert_bytes_string w 26 9 5 _ 0 c Tryz.underlying26 Tryz.underlying5 Tryz.underlying9,run_bytesToString w _ 0 c [] hl]
  rfl
theorem zeq {w:World}{v:Value}{xs:List Int}(h:Bs w v xs):(convert 26 9 v).run Tryz.prog w=.ok (.string (strOfNums xs)) w:=by
 obtain⟨h1,h2,⟨a,cap,rfl,-,rfl⟩|⟨b,off,cap,rfl,h5,h6⟩⟩:=h
 ·exact zfd w a cap
 ·exact run_convert_bytes_arg w 26 5 Tryz.underlying26 Tryz.underlying5 b off _ cap xs rfl h6 9 Tryz.underlying9
theorem zcZ {w:World}(cs:List Int)(T:TypeId)(h:∀x∈cs,0≤x∧x<256)(hl:cs.length≤9)(o:Obj)(ho:o=.cells (cs.map (Value.int .u8)).toArray T)(g:Nat)(hg:g=w.heap.size)(n:Nat)(hn:n=cs.length):Bs (w.alloc o) (.slice (some (xQ g 0)) n n) cs:=by
 subst ho hg hn
 refine⟨h,by omega,.inr ⟨_,0,_,rfl,Nat.le_refl _,fun i hi=>?_⟩⟩
 rw[cell_of_row _ _ _ _ _ _ (heap_alloc_new w _)]
 simp[List.getD,hi]
theorem zj6 (v:Int)(n:Nat):lo v (n+1)=lo (v/256) n++[v%256]:=by
 unfold lo
 rw[List.range_succ,List.map_append]
 congr 1
 ·refine List.map_congr_left fun i hi=>?_
  have hi':=List.mem_range.1 hi
  rw[show n+1-1-i=(n-1-i)+1 from by omega,Int.pow_succ,Int.mul_comm,←Int.ediv_ediv_of_nonneg (by omega)]
 ·simp
theorem zan (v:Int)(n:Nat):(lo v n).length=n:=by simp[lo]
theorem zcW (v:Int)(n:Nat):∀x∈lo v n,0≤x∧x<256:=by
 intro x hx
 obtain⟨i,_,rfl⟩:=List.mem_map.1 hx
 omega
theorem znw (v:Int)(n:Nat):be (lo v n)=v%zao n:=by
 induction n generalizing v with
 | zero=>simp[lo,be,zao]
 | succ n ih=>
  rw[zj6,ze8,ih]
  have h1:=Int.emod_add_mul_ediv v 256
  have hp:=zcg n
  have h2:=Int.emod_add_mul_ediv (v/256) (zao n)
  have h3:v%(256*zao n)=256*(v/256%zao n)+v%256:=by
   have e:v=(256*(v/256%zao n)+v%256)+(256*zao n)*(v/256/zao n):=by
    rw[Int.mul_assoc];omega
   conv=>lhs;rw[e]
   rw[Int.add_mul_emod_self_left]
   have b1:=Int.emod_nonneg (v/256) (b:=zao n) (by omega)
   have b2:=Int.emod_lt_of_pos (v/256) (b:=zao n) (by omega)
   exact Int.emod_eq_of_lt (by omega) (by omega)
  simp only[zao]
  rw[h3]
theorem zgF (xs:List Int)(h:∀x∈xs,0≤x∧x<256):lo (be xs) xs.length=xs:=by
  have key:∀n (l:List Int),l.length=n→(∀x∈l,0≤x∧x<256)→lo (be l) l.length=l:=by
    intro n
    induction n with
    | zero=>intro l hl _;obtain rfl:=List.length_eq_zero_iff.1 hl;rfl
    | succ n ih=>
      intro l hl h
      have hne:l≠[]:=by intro e;subst e;simp at hl
      have e:=(List.dropLast_concat_getLast hne).symm
      have hd:l.dropLast.length=n:=by simp[hl]
      have hp:=ih l.dropLast hd (fun x hx=>h x (List.dropLast_subset _ hx))
      have hq:=h (l.getLast hne) (List.getLast_mem hne)
      rw[hl,zj6]
      rw[hd]at hp
      have e1 : be l = 256 * be l.dropLast + l.getLast hne := by conv => lhs; rw [e]
                                                                 exact ze8 _ _
      rw[e1,show(256*be l.dropLast+l.getLast hne)/256=be l.dropLast from by omega,show(256*be l.dropLast+l.getLast hne)%256=l.getLast hne from by omega,hp]
      exact e.symm
  exact key _ xs rfl h
theorem znX {v n:Int}(h:zcJ v n):be (putB v n)=v:=by
 rw[putB,if_pos h,znw];exact Int.emod_eq_of_lt h.2.2.1 h.2.2.2
theorem zl7 {v n:Int}(h:zcJ v n):(putB v n).length=n.toNat:=by rw[putB,if_pos h,zan]
theorem zcO {w:World}{v:Value}{xs:List Int}(h:Bs w v xs):∃a cap,v=.slice a xs.length cap:=by
 obtain⟨_,_,⟨a,cap,rfl,_,rfl⟩|⟨b,off,cap,rfl,_,_⟩⟩:=h
 ·exact⟨_,_,rfl⟩
 ·exact⟨_,_,rfl⟩
theorem zbz {w:World}{v:Value}{xs:List Int}(h:Bs w v xs)(o:Obj):Bs (w.alloc o) v xs:=zaa h (xr.alloc xl _)
theorem zed (w:World)(cs:List Value)(T:TypeId):∀i,i<cs.length→(w.alloc (.cells cs.toArray T)).cell? ⟨w.heap.size,i,none⟩=some (cs.getD i undef):=by
 intro i hi
 rw[cell_of_row _ _ _ _ _ _ (heap_alloc_new w _)]
 simp[List.getD,hi]
theorem zpK {w:World}{v1 v2 v3:Value}{x1 x2 x3:List Int}(h1:Bs w v1 x1)(h2:Bs w v2 x2)(h3:Bs w v3 x3)(T:TypeId)(tot:x1.length+x2.length+x3.length≤1000):
  Calls Tryz.prog 17 #[.slice (some (w.heap.size,0)) 3 3] (w.alloc (.cells #[v1,v2,v3] T)) (zfV (x1++(x2++x3)) (w.alloc (.cells #[v1,v2,v3] T))):=by
 have h:=zhH w.heap.size [v1,v2,v3] [x1,x2,x3] (w.alloc (.cells #[v1,v2,v3] T)) rfl (zed w [v1,v2,v3] T) (fun i hi=>by
  have:i=0∨i=1∨i=2:=by simp at hi;omega
  rcases this with rfl|rfl|rfl
  ·exact zbz h1 _
  ·exact zbz h2 _
  ·exact zbz h3 _) (by simp;omega) (by simp)
 simpa using h
theorem zi4 (f b m:List Int):segN (f++(b++m)) f.length b.length=be b:=by
 unfold segN;rw[List.drop_left,List.take_left]
theorem zdx (f m:List Int){v n:Int}(h:zcJ v n):getS (f++(putB v n++m)) f.length n=(v,(f.length:Int)+n,0):=by
 have hl:=zl7 h
 have hs:=zi4 f (putB v n) m
 rw[znX h,hl]at hs
 obtain⟨h1,h2,_,_⟩:=h
 unfold getS
 have e:((f++(putB v n++m)).length:Int)=f.length+n+m.length:=by simp[hl];omega
 rw[if_neg (by rw[e];omega),if_neg (by rw[e];omega),Int.toNat_natCast,hs]
theorem zg1 (f m:List Int){v:Int}(h: -9223372036854775808≤v)(h':v<9223372036854775808):zaH (f++(lo (IntKind.u64.wrap v) 8++m)) f.length=(v,(f.length:Int)+8,0):=by
 have hs:=zi4 f (lo (IntKind.u64.wrap v) 8) m
 rw[znw,zan]at hs
 unfold zaH
 have e:((f++(lo (IntKind.u64.wrap v) 8++m)).length:Int)=f.length+8+m.length:=by simp[zan];omega
 have e8:zao 8=18446744073709551616:=by decide
 rw[if_neg (by rw[e];omega),if_neg (by rw[e];omega),Int.toNat_natCast,hs,e8,IntKind.wrap_u64]
 refine Prod.ext ?_ rfl
 simp only[wrap64]
 omega
theorem zfj (g:Nat)(vs:List Value)(xss:List (List Int))(w:World)(hl:vs.length=xss.length)
  (hcell:∀i,i<vs.length→w.cell? ⟨g,i,none⟩=some (vs.getD i undef)) (hb:∀i,i<vs.length→Bs w (vs.getD i undef) (xss.getD i [])) (tot:xss.flatten.length≤5000) (h9:vs.length≤9):
  Calls Tryz.prog 17 #[.slice (some (xQ g 0)) vs.length vs.length] w (zfV xss.flatten w):=by
 obtain⟨i0,hi,hz0,hz1,hz2⟩:=info_parts Tryz.info5
 have hbytes:=xh (fun i (hi:i<vs.length)=>(hb i hi).1)
 have hl':vs.length≤xss.length:=by omega
 have HL:=xh hl
 clear hl
 go_enter Tryz.func17,Tryz.ntmps17
 go_wp2
 go_loopw [3,4] (fun v i wr=>∃k:Nat,k≤vs.length∧i=xI k∧wr.ownsRow w.heap.size 5 1 v (xss.take k).flatten.length ((xss.take k).flatten.map (Value.int .u8))∧Below w.heap.size w wr) (fun _ i _=>vs.length-(intOf i).toNat)
 case atStart=>exact⟨0,Nat.zero_le _,rfl,World.ownsRow_nil _ _ _ _,Below.refl _ _⟩
 case round=>
  obtain⟨k,hk,rfl,hown,hbel⟩:=hrel
  by_cases hlt:k<vs.length
  ·have hc:=hcell k hlt
   have hc1:wr.cell? ⟨g,k,none⟩=some (vs.getD k undef):=by rw[hbel.cell (World.block_lt_of_cell? w _ hc)];exact hc
   have hB:=zaa (hb k hlt) hbel
   have hbs:w.heap.size≤wr.heap.size:=hbel.size
   have hb2:=xh hbel
   have hfs:=xh (zgv xss k (by omega))
   have hle:=zkg xss (k+1)
   rw[hfs.out,List.length_append]at hle
   clear hcell hb hc hbel
   generalize vs.getD k undef=vk at*
   generalize xss.getD k []=xk at*
   obtain⟨_,_,⟨a,cap,rfl,hz,rfl⟩|⟨b,off,cap,rfl,hcap,hcs⟩⟩:=hB
   ·have ho:=xh hown
    clear hown
    cases a with
    | none=>
     obtain rfl:cap=0:=hz rfl
     clear hz
     go_wp2_with (at_builtin;go_must (refine wpList_append_own_none rfl (.tmp 11) (.tmp 15) 26 rfl w.heap.size 5 i0 1 Tryz.underlying26 hi _ _ _ rfl ho.out rfl ?_))
     go_roundw
     case rel=>exact⟨k+1,by omega,by go_num,by rw[hfs.out,List.append_nil];exact ho.out,hb2.out⟩
     case measure=>simp[intOf];omega
    | some x=>
     clear hz
     go_wp2_with (at_builtin;go_must (refine wpList_append_own _ rfl (.tmp 11) (.tmp 15) 26 rfl w.heap.size 5 i0 (.int .u8 0) 1 1 Tryz.underlying26 hi hz0 hz1 hz2 rfl (by decide) _ _ _ rfl ho.out x 0 cap [] rfl (by simp) (by simp) (by simp) (by unfold maxLen;omega) (by omega) hbs ?_);intro v' w1 hown1 hgrow _)
     go_roundw
     case rel=>exact⟨k+1,by omega,by go_num,by rw[hfs.out,List.append_nil];simpa using hown1,hb2.out.grown hgrow hbs (fun k hk=>(ho.out.lt k hk).1)⟩
     case measure=>simp[intOf];omega
   ·have ho:=xh hown
    have hnews:=xh (zdD hcs)
    clear hown hcs
    go_wp2_with (at_builtin;go_must (refine wpList_append_own _ rfl (.tmp 11) (.tmp 15) 26 rfl w.heap.size 5 i0 (.int .u8 0) 1 1 Tryz.underlying26 hi hz0 hz1 hz2 rfl (by decide) _ _ _ rfl ho.out ⟨b,off,none⟩ xk.length cap (xk.map (Value.int .u8)) rfl (by simp) hnews.out (ones xk) (by unfold maxLen;omega) (by omega) hbs ?_);intro v' w1 hown1 hgrow _)
    go_roundw
    case rel=>exact⟨k+1,by omega,by go_num,by rw[hfs.out,List.length_append,List.map_append];exact hown1,hb2.out.grown hgrow hbs (fun k hk=>(ho.out.lt k hk).1)⟩
    case measure=>simp[intOf];omega
  ·obtain rfl:k=vs.length:=by omega
   have ho:=xh hown
   have hb2:=xh hbel
   clear hown hbel hcell
   go_wp2
   go_ret
   refine⟨_,rfl,?_,?_,hb2.out⟩
   ·have hr:=ho.out
    have hl:=HL.out
    rw[hl,List.take_length]at hr
    exact hr
   have hl:=HL.out
   intro x hx
   obtain⟨l,hl1,hl2⟩:=List.mem_flatten.1 hx
   obtain⟨i,hi1,rfl⟩:=List.mem_iff_getElem.1 hl1
   have:=hbytes.out i (by omega)
   simp only[List.getD,hi1,List.getElem?_eq_getElem,Option.getD_some]at this
   exact this x hl2
end Go.Proofs.YtjghebcnmoojmaaGreat
