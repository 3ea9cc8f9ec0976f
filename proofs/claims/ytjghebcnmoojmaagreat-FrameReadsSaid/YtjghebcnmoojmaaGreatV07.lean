/- Plain words on rows of numbers in memory; Next, Far, Less, Within: The reference's Ints and Row; -/
import Derived.Test.YtjghebcnmoojmaaGreatRows
import Derived.Test.YtjghebcnmoojmaaGreatV00
import Derived.WalkKit
import Derived.ProofKit
import Derived.OpenShut
import Derived.ShutString
import Derived.ChangeOld
import Derived.LoopTactic
import Derived.Outline
import Derived.Laws.BytesArg
import Derived.Deep.QuietTactic
import Derived.BigQuiet
import Derived.Laws.AppendOwnNone
set_option maxRecDepth 100000
set_option maxHeartbeats 32000000
namespace Go.Proofs.YtjghebcnmoojmaaGreat
open Go.RowKit MX
def Zs (w:World)(v:Value)(xs:List Int):Prop:=
 xs.length≤9223372036854775807∧
 ((∃a cap,v=.slice a 0 cap∧(a=none→cap=0)∧xs=[])∨
 ∃b off cap,v=.slice (some ⟨b,off,none⟩) xs.length cap∧xs.length≤cap∧∀i,i<xs.length→w.cell? ⟨b,off+i,none⟩=xJ (xs.getD i 0))
theorem zjU (w:World)(xs:List Int)(T:TypeId)(g n:Nat)(hg:g=w.heap.size)(hn:n=xs.length)(hl:xs.length≤1000)(o:Obj)(ho:o=.cells (xs.map (Value.int .i64)).toArray T):Zs (w.alloc o) (.slice (some (xQ g 0)) n n) xs:=by
 subst hg;subst hn;subst ho
 refine⟨by omega,.inr ⟨w.heap.size,0,xs.length,rfl,Nat.le_refl _,fun i hi=>?_⟩⟩
 simp[List.getD,hi]
theorem zgh {k:IntKind}{a b:Int}(h:a=b):Ending.returned (.int k a)=.returned (.int k b):=by rw[h]
def zes (n:Int)(xs:List Int)(k:Nat):Int:=(n+(xs.take k).sum)%65536
theorem zlB (n:Int)(xs:List Int)(k:Nat):0≤zes n xs k∧zes n xs k<65536:=by unfold zes;omega
theorem zib (n:Int)(xs:List Int)(k:Nat)(h:k<xs.length):zes n xs (k+1)=(zes n xs k+(xs.getD k 0)%65536)%65536:=by
 unfold zes
 rw[List.take_succ_eq_append_getElem h,List.sum_append]
 have:xs.getD k 0=xs[k]:=by simp[List.getD,h]
 rw[this]
 simp
 omega
theorem zo8 (x:Int):IntKind.u16.wrap x=x%65536:=by rw[IntKind.wrap_u16]
theorem znc (n:Int)(v:Value)(xs:List Int)(w:World)(h0:0≤n)(h1:n<65536)(hv:Zs w v xs):
  Calls Tryz.prog 155 #[.int .u16 n,v] w fun e w'=>e=.returned (xI ((n+xs.sum)%65536))∧w=w':=by
 obtain⟨hl,⟨a,cap,rfl,-,rfl⟩|⟨b,off,cap,rfl,hcap,hc⟩⟩:=hv
 ·go_enter Tryz.func155,Tryz.ntmps155
  go_wp2
  go_loop [0,9] (fun p i=>p=.int .u16 n∧i=xI 0) (fun _ _=>0)
  case atStart=>exact⟨rfl,rfl⟩
  case round=>
   obtain⟨rfl,rfl⟩:=hrel
   go_wp2
   go_ret
   exact⟨zgh (by omega),rfl⟩
 ·have e0:zes n xs 0=n:=by simp[zes];omega
  have eN:zes n xs xs.length=(n+xs.sum)%65536:=by simp[zes]
  rw[←eN]
  clear eN
  have E0:=xh e0
  clear e0
  go_enter Tryz.func155,Tryz.ntmps155
  go_wp2
  go_loop [0,9] (fun p i=>∃k:Nat,k≤xs.length∧i=xI k∧p=.int .u16 (zes n xs k)) (fun _ i=>xs.length-(intOf i).toNat)
  case atStart=>exact⟨0,Nat.zero_le _,rfl,by rw[E0.out]⟩
  case round=>
   obtain⟨k,hk,rfl,rfl⟩:=hrel
   obtain⟨b1,b2⟩:=zlB n xs k
   by_cases hlt:k<xs.length
   ·have hck:=hc k hlt
    have hs:=xh (zib n xs k hlt)
    generalize xs.getD k 0=c at*
    clear hc
    go_wp2
    go_round
    case rel=>exact⟨k+1,by omega,by go_num,by rw[hs.out];simp only[zo8]⟩
    case measure=>simp[intOf];omega
   ·obtain rfl:k=xs.length:=by omega
    clear hc
    go_wp2
    go_ret
    exact⟨rfl,rfl⟩
def far (a b:Int):Int:=(b-a)%65536
theorem zmY (a b:Int)(w:World):Calls Tryz.prog 145 #[xI a,xI b] w fun e w'=>e=.returned (xI (far a b))∧Below w.heap.size w w':=by
 go_enter Tryz.func145,Tryz.ntmps145
 go_wp2_with (go_at_call 155;refine(znc 0 _ [b,wrap64 (-a)] _ (by omega) (by omega) (zjU w [b,wrap64 (-a)] 3 _ 2 rfl rfl (by simp) _ rfl)).mono ?_;rintro e w' ⟨rfl,rfl⟩)
 go_ret
 exact⟨zgh (by unfold far wrap64;omega),xr.alloc xl _⟩
def left (a:Int):Int:=a%65536
theorem zm6:(Tryz.prog.info? 3).map (fun i=>(i.zero,i.size,i.bytes))=some (some (.int .i64 0),1,8):=by kernel_rfl
theorem zjv {w:World}{b off:Nat}{xs:List Int}(hc:∀i,i<xs.length→w.cell? ⟨b,off+i,none⟩=xJ (xs.getD i 0)):∀j u,(xs.map (Value.int .i64))[j]? =some u→w.cell? ((⟨b,off,none⟩:Addr).add j)=some u:=by
 intro j u h
 have hj:j<xs.length:=by
  rcases Nat.lt_or_ge j xs.length with h'|h'
  ·exact h'
  ·rw[List.getElem?_eq_none (by simpa using h')]at h;cases h
 have hadd:(⟨b,off,none⟩:Addr).add j=⟨b,off+j,none⟩:=by unfold Addr.add;split<;>simp_all
 rw[hadd,hc j hj]
 simp[hj]at h
 simp[List.getD,hj,h]
theorem zoH (xs:List Int):∀u∈xs.map (Value.int .i64),u.oneCell'=true:=by
 intro u hu
 obtain⟨x,_,rfl⟩:=List.mem_map.1 hu
 rfl
theorem zhZ {ops:Array Oper}{rest:List Oper}{o:Oper}{a:Act}{Q:Exit→Act→World→Prop}{w:World}(hgd:o.guard=none)(s x:Operand)
  (ho:o.op=.call {callee:=.builtin .append,args:=#[s,x],argTypes:=#[128,128]}) (base:Nat) (xs ys:List Int)
  (hown:w.ownsRow base 3 1 (a.eval s) xs.length (xs.map (Value.int .i64))) (hx:Zs w (a.eval x) ys) (h63:xs.length+ys.length≤1000) (hbase:base≤w.heap.size)
  (h:∀(v':Value) (w':World),w'.ownsRow base 3 1 v' (xs++ys).length ((xs++ys).map (Value.int .i64))→Below base w w'→w.heap.size≤w'.heap.size→(v'=xS→a.eval s=xS)→wpList Tryz.prog ops Q rest (a.put o.dst v') w'):wpList Tryz.prog ops Q (o::rest) a w:=by
 obtain⟨i0,hi,hz0,hz1,hz2⟩:=info_parts zm6
 obtain⟨_,⟨ad,cap,hv,hz,rfl⟩|⟨b,off,cap,hv,hcap,hcs⟩⟩:=hx
 ·cases ad with
  | none=>
   obtain rfl:cap=0:=hz rfl
   refine wpList_append_own_none hgd s x 128 ho base 3 i0 1 Tryz.underlying128 hi _ _ _ rfl hown hv ?_
   rw[List.append_nil]at h
   exact h _ _ hown xr xl id
  | some ad=>
   refine wpList_append_own w hgd s x 128 ho base 3 i0 (xI 0) 1 8 Tryz.underlying128 hi hz0 hz1 hz2 rfl (by decide) _ _ _ rfl hown ad 0 cap [] hv (by simp) (by simp) (by simp) (by unfold maxLen;omega) (by omega) hbase fun v' w1 hown1 hgrow hnil=>?_
   exact h v' w1 (by simpa using hown1) (xr.grown hgrow hbase (fun k hk=>(hown.lt k hk).1)) hgrow.size fun hn=>(hnil.1 hn).1
 ·refine wpList_append_own w hgd s x 128 ho base 3 i0 (xI 0) 1 8 Tryz.underlying128 hi hz0 hz1 hz2 rfl (by decide) _ _ _ rfl hown ⟨b,off,none⟩ ys.length cap (ys.map (Value.int .i64)) hv (by simp) (zjv hcs) (zoH ys) (by unfold maxLen;omega) (by omega) hbase fun v' w1 hown1 hgrow hnil=>?_
  refine h v' w1 ?_ (xr.grown hgrow hbase (fun k hk=>(hown.lt k hk).1)) hgrow.size fun hn=>(hnil.1 hn).1
  rw[List.length_append,List.map_append];exact hown1
end Go.Proofs.YtjghebcnmoojmaaGreat
