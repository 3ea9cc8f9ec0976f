/- Plain words on bytes in memory, and the checksums' contracts. The contracts of what only reads: The contracts of what makes bytes. The reference's readers: -/
import Derived.Test.YtjghebcnmoojmaaGreatRows
import Derived.Test.YtjghebcnmoojmaaGreatV00
import Derived.WalkKit
import Derived.ProofKit
import Derived.OpenShut
import Derived.ShutString
import Derived.ChangeOld
import Derived.LoopTactic
import Derived.Outline
import Derived.Laws.BytesArg
import Derived.WalkSpells
set_option maxRecDepth 100000
set_option maxHeartbeats 32000000
namespace Go.Proofs.YtjghebcnmoojmaaGreat
open Go.RowKit MX
def Bs (w:World)(v:Value)(xs:List Int):Prop:=
 (∀x∈xs,0≤x∧x<256)∧xs.length≤9223372036854775807∧
 ((∃a cap,v=.slice a 0 cap∧(a=none→cap=0)∧xs=[])∨
 ∃b off cap,v=.slice (some ⟨b,off,none⟩) xs.length cap∧xs.length≤cap∧∀i,i<xs.length→w.cell? ⟨b,off+i,none⟩=some (.int .u8 (xs.getD i 0)))
def zeQ (p:Int×Int)(x:Int):Int×Int:=((p.1+x)%251,(p.2+(p.1+x)%251)%251)
def sumP (xs:List Int):Int×Int:=xs.foldl zeQ (1,0)
def sumN (xs:List Int):Int:=256*(sumP xs).2+(sumP xs).1
theorem zg8 (xs:List Int):0≤(sumP xs).1∧(sumP xs).1<251∧0≤(sumP xs).2∧(sumP xs).2<251:=by
 have key:∀(l:List Int) (p:Int×Int),(0≤p.1∧p.1<251∧0≤p.2∧p.2<251)→
   0≤(l.foldl zeQ p).1∧(l.foldl zeQ p).1<251∧0≤(l.foldl zeQ p).2∧(l.foldl zeQ p).2<251:=by
  intro l
  induction l with
  | nil=>intro p h;exact h
  | cons x l ih=>intro p h;exact ih _ ⟨by simp only[zeQ];omega,by simp only[zeQ];omega,by simp only[zeQ];omega,by simp only[zeQ];omega⟩
 exact key xs (1,0) ⟨by decide,by decide,by decide,by decide⟩
theorem zgy (xs:List Int)(k:Nat)(h:k<xs.length):sumP (xs.take (k+1))=zeQ (sumP (xs.take k)) (xs.getD k 0):=by
 unfold sumP
 rw[List.take_succ_eq_append_getElem h,List.foldl_append]
 simp[List.getD,h]
theorem zcE {k:IntKind}{a b:Int}(h:a=b):Value.int k a=.int k b:=by rw[h]
theorem ziI {w:World}{xs:List Int}{b off:Nat}(hx:∀x∈xs,0≤x∧x<256)(hc:∀i,i<xs.length→w.cell? ⟨b,off+i,none⟩=some (.int .u8 (xs.getD i 0)))(k:Nat)(h:k<xs.length):
  ∃c:Int,Hid (xs.getD k 0=c)∧0≤c∧c<256∧w.cell? ⟨b,off+k,none⟩=some (.int .u8 c):=by
 have e:xs.getD k 0=xs[k]:=by simp[List.getD,h]
 have:=hx xs[k] (List.getElem_mem h)
 exact⟨xs[k],e,this.1,this.2,by rw[hc k h,e]⟩
theorem zjT (v:Value)(xs:List Int)(w:World)(hv:Bs w v xs):
  Calls Tryz.prog 24 #[v] w fun e w'=>e=.returned (xI (sumN xs))∧w=w':=by
 obtain⟨hx,hl,⟨a,cap,rfl,-,rfl⟩|⟨b,off,cap,rfl,hcap,hc⟩⟩:=hv
 ·go_enter Tryz.func24,Tryz.ntmps24
  go_wp2
  go_loop [3,4,6,9] (fun p q _ i=>p=xI 1∧q=xI 0∧i=xI 0) (fun _ _ _ _=>0)
  case atStart=>exact⟨rfl,rfl,rfl⟩
  case round=>
   obtain⟨rfl,rfl,rfl⟩:=hrel
   go_wp2
   go_ret
   exact⟨rfl,rfl⟩
 ·go_enter Tryz.func24,Tryz.ntmps24
  go_wp2
  go_loop [3,4,6,9] (fun p q _ i=>∃k:Nat,k≤xs.length∧i=xI k∧p=xI (sumP (xs.take k)).1∧q=xI (sumP (xs.take k)).2) (fun _ _ _ i=>xs.length-(intOf i).toNat)
  case atStart=>exact⟨0,Nat.zero_le _,rfl,rfl,rfl⟩
  case round=>
   obtain⟨k,hk,rfl,rfl,rfl⟩:=hrel
   obtain⟨h1,h2,h3,h4⟩:=zg8 (xs.take k)
   by_cases hlt:k<xs.length
   ·obtain⟨c,hg,b1,b2,hck⟩:=ziI hx hc k hlt
    have hs:=xh (zgy xs k hlt)
    clear hx hc
    go_wp2
    go_round
    case rel=>exact⟨k+1,by omega,by go_num,by rw[hs.out,hg.out];rfl,by rw[hs.out,hg.out];rfl⟩
    case measure=>simp[intOf];omega
   ·obtain rfl:k=xs.length:=by omega
    rw[List.take_length]at h1 h2 h3 h4
    go_wp2
    go_ret
    exact⟨rfl,rfl⟩
theorem zfA (v:Value)(xs:List Int)(w:World)(hv:Bs w v xs):
  Calls Tryz.prog 28 #[v] w fun e w'=>e=.returned (xI (sumN xs))∧w=w':=by
 obtain⟨hx,hl,⟨a,cap,rfl,-,rfl⟩|⟨b,off,cap,rfl,hcap,hc⟩⟩:=hv
 ·go_enter Tryz.func28,Tryz.ntmps28
  go_wp2
  go_loop [3,4,5] (fun p q i=>p=xI 1∧q=xI 0∧i=xI 0) (fun _ _ _=>0)
  case atStart=>exact⟨rfl,rfl,rfl⟩
  case round=>
   obtain⟨rfl,rfl,rfl⟩:=hrel
   go_wp2
   go_ret
   exact⟨rfl,rfl⟩
 ·go_enter Tryz.func28,Tryz.ntmps28
  go_wp2
  go_loop [3,4,5] (fun p q i=>∃k:Nat,k≤xs.length∧i=xI k∧p=xI (sumP (xs.take k)).1∧q=xI (sumP (xs.take k)).2) (fun _ _ i=>xs.length-(intOf i).toNat)
  case atStart=>exact⟨0,Nat.zero_le _,rfl,rfl,rfl⟩
  case round=>
   obtain⟨k,hk,rfl,rfl,rfl⟩:=hrel
   obtain⟨h1,h2,h3,h4⟩:=zg8 (xs.take k)
   by_cases hlt:k<xs.length
   ·obtain⟨c,hg,b1,b2,hck⟩:=ziI hx hc k hlt
    have hs:=xh (zgy xs k hlt)
    clear hx hc
    go_wp2
    go_round
    case rel=>exact⟨k+1,by omega,by go_num,by rw[hs.out,hg.out];rfl,by rw[hs.out,hg.out];rfl⟩
    case measure=>simp[intOf];omega
   ·obtain rfl:k=xs.length:=by omega
    rw[List.take_length]at h1 h2 h3 h4
    go_wp2
    go_ret
    exact⟨rfl,rfl⟩
def zao:Nat→Int
 | 0=>1
 | n+1=>256*zao n
theorem zcg (n:Nat):1≤zao n:=by
 induction n with
 | zero=>decide
 | succ n ih=>simp only[zao];omega
theorem zeu {n m:Nat}(h:n≤m):zao n≤zao m:=by
  induction m with
  | zero => obtain rfl : n = 0 := by omega
            exact Int.le_refl _
  | succ m ih=>
    rcases Nat.lt_or_ge m n with h'|h'
    · obtain rfl:n=m+1:=by omega
      exact Int.le_refl _
    · have:=ih h';have:=zcg m;simp only[zao];omega
theorem zd1:zao 7=72057594037927936:=by decide
theorem zbI {n:Nat}(h:n≤7):zao n≤72057594037927936:=by
 have:=zeu h;rw[zd1]at this;exact this
theorem zkB (n:Nat)(w:World)(hn:n≤7):
  Calls Tryz.prog 49 #[xI n] w fun e w'=>e=.returned (xI (zao n))∧w=w':=by
 go_enter Tryz.func49,Tryz.ntmps49
 go_wp2
 go_loop [3,4] (fun p i=>∃k:Nat,k≤n∧i=xI k∧p=xI (zao k)) (fun _ i=>n-(intOf i).toNat)
 case atStart=>exact⟨0,Nat.zero_le _,rfl,rfl⟩
 case round=>
  obtain⟨k,hk,rfl,rfl⟩:=hrel
  have h1:=zcg k
  by_cases hlt:k<n
  ·have h2:=zbI (n:=k+1) (by omega)
   simp only[zao]at h2
   go_wp2
   go_round
   case rel=>exact⟨k+1,by omega,by go_num,rfl⟩
   case measure=>simp[intOf];omega
  ·obtain rfl:k=n:=by omega
   go_wp2
   go_ret
   exact⟨rfl,rfl⟩
def be (xs:List Int):Int:=xs.foldl (fun a x=>256*a+x) 0
theorem ze8 (xs:List Int)(c:Int):be (xs++[c])=256*be xs+c:=by simp[be,List.foldl_append]
theorem zjY (xs:List Int)(hx:∀x∈xs,0≤x∧x<256):0≤be xs∧be xs<zao xs.length:=by
 have key:∀n (l:List Int),l.length=n→(∀x∈l,0≤x∧x<256)→0≤be l∧be l<zao l.length:=by
  intro n
  induction n with
  | zero=>intro l hl _;obtain rfl:=List.length_eq_zero_iff.1 hl;exact⟨by decide,by decide⟩
  | succ n ih=>
   intro l hl h
   have hne:l≠[]:=by intro e;subst e;simp at hl
   have e:=(List.dropLast_concat_getLast hne).symm
   have hd:l.dropLast.length=n:=by simp[hl]
   have hp:=ih l.dropLast hd (fun x hx=>h x (List.dropLast_subset _ hx))
   have hq:=h (l.getLast hne) (List.getLast_mem hne)
   rw[e,ze8]
   simp only[List.length_append,List.length_cons,List.length_nil,hd,zao]at hp ⊢
   have:zao (n+(0+1))=256*zao n:=rfl
   omega
 exact key _ xs rfl hx
theorem zoY (B c:Int)(h0:0≤B)(h1:B<72057594037927936)(b1:0≤c)(b2:c<256):bits .or .u64 (IntKind.u64.wrap (B*256)) c=256*B+c:=by
 have e:IntKind.u64.wrap (B*256)=B*256:=by rw[IntKind.wrap_u64];omega
 rw[e,bits_join .u64 64 (by decide) (fun n h1 h2=>by rw[IntKind.wrap_u64];exact Int.emod_eq_of_lt h1 (by simpa using h2)) 8 (B*256) c (by omega) (by omega) (by omega) b1 (by omega) (by omega)]
 omega
theorem zj4 (xs:List Int)(k j:Nat)(h:k+j<xs.length):be ((xs.drop k).take (j+1))=256*be ((xs.drop k).take j)+xs.getD (k+j) 0:=by
 rw[List.take_succ_eq_append_getElem (by simp;omega),ze8]
 simp[List.getD,h]
theorem zbw {xs:List Int}(hx:∀x∈xs,0≤x∧x<256)(k j:Nat):∀x∈(xs.drop k).take j,0≤x∧x<256:=
 fun x h=>hx x (List.drop_subset _ _ (List.take_subset _ _ h))
theorem zfR {xs:List Int}(hx:∀x∈xs,0≤x∧x<256)(k j:Nat)(h:j≤7):0≤be ((xs.drop k).take j)∧be ((xs.drop k).take j)<72057594037927936:=by
 have h1:=zjY _ (zbw hx k j)
 have h2:zao ((xs.drop k).take j).length≤72057594037927936:=zbI (by simp;omega)
 omega
theorem zjh (v:Value)(xs:List Int)(k n:Nat)(w:World)(hv:Bs w v xs)(h1:1≤n)(h8:n≤8)(hk:k+n≤xs.length):
  Calls Tryz.prog 72 #[v,xI k,xI n] w fun e w'=>e=.returned (.tuple #[xI (wrap64 (be ((xs.drop k).take n))),xI ((k:Int)+(n:Int)),xI 0])∧w=w':=by
 obtain⟨hx,hl,⟨a,cap,rfl,-,rfl⟩|⟨b,off,cap,rfl,hcap,hc⟩⟩:=hv
 ·simp at hk;omega
 ·have i1:(k:Int)≤(xs.length:Int):=by omega
  have i2:(n:Int)≤(xs.length:Int)-(k:Int):=by omega
  have i3:(k:Int)+(n:Int)≤(cap:Int):=by omega
  go_enter Tryz.func72,Tryz.ntmps72
  go_wp2
  go_loop [9,11,33] (fun a _ i=>∃j:Nat,j≤n∧i=xI j∧a=.int .u64 (be ((xs.drop k).take j))) (fun _ _ i=>n-(intOf i).toNat)
  case atStart=>exact⟨0,Nat.zero_le _,rfl,rfl⟩
  case round=>
   obtain⟨j,hj,rfl,rfl⟩:=hrel
   by_cases hlt:j<n
   ·obtain⟨c,hg,b1,b2,hck⟩:=ziI hx hc (k+j) (by omega)
    have hs:=xh (zj4 xs k j (by omega))
    have hd:=xh (zfR hx k j (by omega))
    rw[←Nat.add_assoc]at hck
    clear hx hc
    go_wp2
    go_round
    case rel=>exact⟨j+1,by omega,by go_num,zcE (by rw[hs.out,hg.out];exact zoY _ _ hd.out.1 hd.out.2 b1 b2)⟩
    case measure=>simp[intOf];omega
   ·obtain rfl:j=n:=by omega
    clear hx hc
    go_wp2
    go_ret3
    exact⟨rfl,rfl⟩
theorem zhz (v:Value)(xs:List Int)(k n:Int)(w:World)(hv:Bs w v xs)(hk:k<0∨(xs.length:Int)<k):
  Calls Tryz.prog 72 #[v,xI k,xI n] w fun e w'=>e=.returned (.tuple #[xI 0,xI 0,xI 1])∧w=w':=by
 obtain⟨hx,hl,⟨a,cap,rfl,-,rfl⟩|⟨b,off,cap,rfl,hcap,hc⟩⟩:=hv
 all_goals
  first|simp only[List.length_nil,Int.ofNat_zero]at hk|skip
  rcases hk with hk|hk
 all_goals
  go_enter Tryz.func72,Tryz.ntmps72
  go_wp2
  go_ret3
  exact⟨rfl,rfl⟩
theorem zgo (v:Value)(xs:List Int)(k n:Int)(w:World)(hv:Bs w v xs)(h0:0≤k)(hk:k≤(xs.length:Int))(hn:(xs.length:Int)-k<n):
  Calls Tryz.prog 72 #[v,xI k,xI n] w fun e w'=>e=.returned (.tuple #[xI 0,xI 0,xI 6])∧w=w':=by
 obtain⟨hx,hl,⟨a,cap,rfl,-,rfl⟩|⟨b,off,cap,rfl,hcap,hc⟩⟩:=hv
 ·simp only[List.length_nil]at hk hn
  have hk0:k=0:=by omega
  subst hk0
  have hn':(0:Int)<n:=by omega
  clear hn
  go_enter Tryz.func72,Tryz.ntmps72
  go_wp2
  go_ret3
  exact⟨rfl,rfl⟩
 ·go_enter Tryz.func72,Tryz.ntmps72
  go_wp2
  go_ret3
  exact⟨rfl,rfl⟩
def segN (xs:List Int)(k n:Nat):Int:=be ((xs.drop k).take n)
def getS (xs:List Int)(k n:Int):Int×Int×Int:=
 if n<1∨7<n∨k<0∨(xs.length:Int)<k then(0,0,1)
 else if(xs.length:Int)-k<n then(0,0,6)
 else(segN xs k.toNat n.toNat,k+n,0)
def zaH (xs:List Int)(k:Int):Int×Int×Int:=
 if k<0∨(xs.length:Int)<k then(0,0,1)
 else if(xs.length:Int)-k<8 then(0,0,6)
 else(wrap64 (segN xs k.toNat 8),k+8,0)
def tri (r:Int×Int×Int):Value:=.tuple #[xI r.1,xI r.2.1,xI r.2.2]
theorem zgm {xs:List Int}(hx:∀x∈xs,0≤x∧x<256)(k n:Nat)(h:n≤7):wrap64 (segN xs k n)=segN xs k n:=by
 have:=zfR hx k n h
 unfold wrap64 segN
 omega
theorem zjq (v:Value)(xs:List Int)(k n:Int)(w:World)(hv:Bs w v xs):
  Calls Tryz.prog 53 #[v,xI k,xI n] w fun e w'=>e=.returned (tri (getS xs k n))∧w=w':=by
 by_cases c1:n<1∨7<n
 ·have hf:tri (getS xs k n)=.tuple #[xI 0,xI 0,xI 1]:=by
   unfold getS;rw[if_pos (by omega)];rfl
  rw[hf]
  clear hf
  rcases c1 with c1|c1
  all_goals
   go_enter Tryz.func53,Tryz.ntmps53
   go_wp2
   go_ret3
   exact⟨rfl,rfl⟩
 ·have n1:1≤n:=by omega
  have n7:n≤7:=by omega
  clear c1
  by_cases c2:k<0∨(xs.length:Int)<k
  ·have hf:tri (getS xs k n)=.tuple #[xI 0,xI 0,xI 1]:=by
    unfold getS;rw[if_pos (by omega)];rfl
   rw[hf]
   clear hf
   have H:=xh c2
   clear c2
   go_enter Tryz.func53,Tryz.ntmps53
   go_wp2_with (go_at_call 72;refine(zhz v xs k n _ hv H.out).mono ?_;rintro e w' ⟨rfl,rfl⟩)
   go_ret3
   exact⟨rfl,rfl⟩
  ·have k0:0≤k:=by omega
   have k1:k≤(xs.length:Int):=by omega
   clear c2
   by_cases c3:(xs.length:Int)-k<n
   ·have hf:tri (getS xs k n)=.tuple #[xI 0,xI 0,xI 6]:=by
     unfold getS;rw[if_neg (by omega),if_pos c3];rfl
    rw[hf]
    clear hf
    go_enter Tryz.func53,Tryz.ntmps53
    go_wp2_with (go_at_call 72;refine(zgo v xs k n _ hv k0 k1 c3).mono ?_;rintro e w' ⟨rfl,rfl⟩)
    go_ret3
    exact⟨rfl,rfl⟩
   ·obtain⟨K,rfl⟩:=Int.eq_ofNat_of_zero_le k0
    obtain⟨N,rfl⟩:=Int.eq_ofNat_of_zero_le (show(0:Int)≤n by omega)
    have hf:Hid (tri (getS xs K N)=.tuple #[xI (wrap64 (be ((xs.drop K).take N))),xI ((K:Int)+(N:Int)),xI 0]):=by
     unfold getS;rw[if_neg (by omega),if_neg c3]
     have:=zgm hv.1 K N (by omega)
     unfold segN at this
     simp only[tri,Int.toNat_natCast]
     rw[this]
     rfl
    go_enter Tryz.func53,Tryz.ntmps53
    go_wp2_with (go_at_call 72;refine(zjh v xs K N _ hv (by omega) (by omega) (by omega)).mono ?_;rintro e w' ⟨rfl,rfl⟩)
    go_ret3
    exact⟨congrArg Ending.returned hf.out.symm,rfl⟩
theorem zis (v:Value)(xs:List Int)(k:Int)(w:World)(hv:Bs w v xs):
  Calls Tryz.prog 153 #[v,xI k] w fun e w'=>e=.returned (tri (zaH xs k))∧w=w':=by
 by_cases c2:k<0∨(xs.length:Int)<k
 ·have hf:tri (zaH xs k)=.tuple #[xI 0,xI 0,xI 1]:=by
   unfold zaH;rw[if_pos (by omega)];rfl
  rw[hf]
  clear hf
  have H:=xh c2
  clear c2
  go_enter Tryz.func153,Tryz.ntmps153
  go_wp2_with (go_at_call 72;refine(zhz v xs k 8 _ hv H.out).mono ?_;rintro e w' ⟨rfl,rfl⟩)
  go_ret3
  exact⟨rfl,rfl⟩
 ·have k0:0≤k:=by omega
  have k1:k≤(xs.length:Int):=by omega
  clear c2
  by_cases c3:(xs.length:Int)-k<8
  ·have hf:tri (zaH xs k)=.tuple #[xI 0,xI 0,xI 6]:=by
    unfold zaH;rw[if_neg (by omega),if_pos c3];rfl
   rw[hf]
   clear hf
   go_enter Tryz.func153,Tryz.ntmps153
   go_wp2_with (go_at_call 72;refine(zgo v xs k 8 _ hv k0 k1 c3).mono ?_;rintro e w' ⟨rfl,rfl⟩)
   go_ret3
   exact⟨rfl,rfl⟩
  ·obtain⟨K,rfl⟩:=Int.eq_ofNat_of_zero_le k0
   have hf:Hid (tri (zaH xs K)=.tuple #[xI (wrap64 (be ((xs.drop K).take 8))),xI ((K:Int)+((8:Nat):Int)),xI 0]):=by
    unfold zaH;rw[if_neg (by omega),if_neg c3];rfl
   go_enter Tryz.func153,Tryz.ntmps153
   go_wp2_with (go_at_call 72;refine(zjh v xs K 8 _ hv (by omega) (by omega) (by omega)).mono ?_;rintro e w' ⟨rfl,rfl⟩)
   go_ret3
   exact⟨congrArg Ending.returned hf.out.symm,rfl⟩
theorem Tryz.info5:(Tryz.prog.info? 5).map (fun i=>(i.zero,i.size,i.bytes))=some (some (.int .u8 0),1,1):=by kernel_rfl
theorem zfS (b:Nat)(x v:Int)(w:World)(hc:w.cell? (xQ b 0)=some (.int .u64 x))(hf:w.frozen? (xQ b 0)=false):
  Calls Tryz.prog 83 #[xP b,.int .u64 v] w fun e w'=>e=.returned (.tuple #[])∧w'=w.setCell (xQ b 0) (.int .u64 v):=by
 have hs:=run_call_store (P:=Tryz.prog) Tryz.func107 (by kernel_rfl) (by kernel_rfl) (by kernel_rfl) (by kernel_rfl) (k:=.u64) (y:=v) hc hf
 go_enter Tryz.func83,Tryz.ntmps83
 go_wp2
 go_end0
 exact⟨rfl,rfl⟩
theorem zhe (b:Nat)(x:Int)(w:World)(hc:w.cell? (xQ b 0)=some (.int .u64 x)):
  Calls Tryz.prog 84 #[xP b] w fun e w'=>e=.returned (.int .u64 x)∧w=w':=by
 have hl:=run_call_load (P:=Tryz.prog) Tryz.func108 (by kernel_rfl) (by kernel_rfl) (by kernel_rfl) .u64 (by kernel_rfl) hc
 go_enter Tryz.func84,Tryz.ntmps84
 go_wp2
 go_ret
 exact⟨rfl,rfl⟩
def lo (v:Int)(n:Nat):List Int:=(List.range n).map fun i=>v/256^(n-1-i)%256
theorem zhj (v:Int)(m:Nat):v/256^m%256=v/2^(8*m)%256:=by
 rw[Int.pow_mul];rfl
def row (F:Nat→Int)(n:Nat):List Value:=(List.range n).map fun i=>Value.int .u8 (F i)
theorem row_len (F:Nat→Int)(n:Nat):(row F n).length=n:=by simp[row]
theorem zcy (F:Nat→Int)(n k:Nat)(h:k<n):(row F n)[k]? =some (.int .u8 (F k)):=by simp[row,h]
theorem zjp (F G:Nat→Int)(n k:Nat)(x:Int)(hk:G k=x)(ho:∀i,i<n→i≠k→G i=F i):(row F n).set k (.int .u8 x)=row G n:=by
 apply List.ext_getElem?
 intro i
 rw[List.getElem?_set]
 by_cases hi:i<n
 ·rw[zcy _ _ _ hi,zcy _ _ _ hi,row_len]
  by_cases e:k=i
  ·subst e;rw[if_pos rfl,if_pos hi,hk]
  ·rw[if_neg e,ho i hi (fun h=>e h.symm)]
 ·rw[List.getElem?_eq_none (by rw[row_len];omega),List.getElem?_eq_none (by rw[row_len];omega),row_len]
  by_cases e:k=i
  ·subst e;rw[if_pos rfl,if_neg hi]
  ·rw[if_neg e]
theorem zcB {F G:Nat→Int}{n:Nat}(h:∀i,i<n→F i=G i):row F n=row G n:=
 List.map_congr_left fun i hi=>by rw[h i (List.mem_range.1 hi)]
def upTo (L:Nat→Int)(k i:Nat):Int:=if i<k then L i else 0
def zcu (L:Nat→Int)(k i:Nat):Int:=if k≤i then L i else 0
theorem zmq (L:Nat→Int)(n k:Nat):(row (upTo L k) n).set k (.int .u8 (L k))=row (upTo L (k+1)) n:=by
 refine zjp _ _ _ _ _ ?_ ?_
 ·simp[upTo]
 ·intro i _ hne
  by_cases h:i<k
  ·simp only[upTo];rw[if_pos h,if_pos (by omega)]
  ·simp only[upTo];rw[if_neg h,if_neg (by omega)]
theorem zhC (L:Nat→Int)(n k:Nat):(row (zcu L (k+1)) n).set k (.int .u8 (L k))=row (zcu L k) n:=by
 refine zjp _ _ _ _ _ ?_ ?_
 ·simp[zcu]
 ·intro i _ hne
  by_cases h:k≤i
  ·simp only[zcu];rw[if_pos h,if_pos (by omega)]
  ·simp only[zcu];rw[if_neg h,if_neg (by omega)]
theorem zh1 (L:Nat→Int)(n:Nat):row (upTo L n) n=row L n:=zcB fun i h=>by simp only[upTo];rw[if_pos h]
theorem zgf (L:Nat→Int)(n:Nat):row (upTo L 0) n=row (fun _=>0) n:=zcB fun i h=>by simp[upTo]
theorem zeV (L:Nat→Int)(n:Nat):row (zcu L 0) n=row L n:=zcB fun i h=>by simp[zcu]
theorem zeI (L:Nat→Int)(n:Nat):row (zcu L n) n=row (fun _=>0) n:=zcB fun i h=>by simp only[zcu];rw[if_neg (by omega)]
theorem zeg (n:Nat):(madeCells (Value.int IntKind.u8 0).cells (n*1)).toList=row (fun _=>0) n:=by
 have e:(Value.int IntKind.u8 0).cells=#[.int .u8 0]:=rfl
 apply List.ext_getElem?
 intro i
 by_cases h:i<n
 ·rw[zcy _ _ _ h,e];simp[madeCells,h,Nat.mod_one]
 ·rw[List.getElem?_eq_none (by simp[madeCells];omega),List.getElem?_eq_none (by rw[row_len];omega)]
theorem zfJ {w:World}{base g n:Nat}{F:Nat→Int}(h:w.ownsRow base 5 1 (.slice (some (xQ g 0)) n n) n (row F n))(hn:n≤9223372036854775807)(hF:∀i,i<n→0≤F i∧F i<256):
  Bs w (.slice (some (xQ g 0)) n n) ((List.range n).map F):=by
 refine⟨fun x hx=>?_,by simpa using hn,.inr ⟨g,0,n,by simp,by simp,fun i hi=>?_⟩⟩
 ·obtain⟨i,hi,rfl⟩:=List.mem_map.1 hx
  exact hF i (List.mem_range.1 hi)
 ·have hi':i<n:=by simpa using hi
  rw[Nat.zero_add,h.cellAt i (by omega),zcy _ _ _ hi']
  simp[List.getD,hi']
def znj (xs:List Int)(w:World)(e:Ending)(w':World):Prop:=∃r,e=.returned r∧Bs w' r xs∧Below w.heap.size w w'
theorem zf4 (v:Int)(n:Nat)(w:World)(_:0≤v)(h1:1≤n)(h8:n≤8):
  Calls Tryz.prog 65 #[.int .u64 v,xI n] w (znj (lo v n) w):=by
 obtain⟨i0,hi,hz0,hz1,hz2⟩:=info_parts Tryz.info5
 go_enter Tryz.func65,Tryz.ntmps65
 go_wp2_with (first
  | (go_at_call 83;refine(zfS _ 0 v _ (by simp) (by simp)).mono ?_;rintro e w' ⟨rfl,rfl⟩)
  | (at_make;go_must (refine wpList_make_full _ rfl _ _ 26 rfl (w.heap.size+1) 5 i0 (.int .u8 0) 1 Tryz.underlying26 hi hz0 hz1 _ _ _ _ n rfl rfl rfl rfl (by rw[hz2];omega) (by unfold maxLen;omega) (by simp) ?_);intro w1 hown hgrow))
 rw[zeg]at hown
 have hbel:Below w.heap.size w w1:=((xr.alloc xl _).grown hgrow (by simp) (by simp))
 have hat:w1.cell? (w.heap.size,0)=some (.int .u64 v):=hgrow.cell (by simp) (by simp)
 clear hgrow
 go_loopw [7,14] (fun _ i wr=>∃k:Nat,k≤n∧i=xI k∧wr.ownsRow (w.heap.size+1) 5 1 (.slice (some (w.heap.size+1,0)) n n) n (row (upTo (fun i=>v/256^(n-1-i)%256) k) n)∧Below w.heap.size w wr∧wr.cell? (w.heap.size,0)=some (.int .u64 v)) (fun _ i _=>n-(intOf i).toNat)
 case atStart=>exact⟨0,Nat.zero_le _,rfl,by rw[zgf];simpa using hown,hbel,hat⟩
 case round=>
  clear hbel hat hown
  obtain⟨k,hk,rfl,hown,hbel,hat⟩:=hrel
  by_cases hlt:k<n
  ·have hcell:=hown.cellAt k (by omega)
   rw[zcy _ _ _ hlt]at hcell
   have hfz:=hown.frozenAt k
   have hst:=xh (hown.stored k)
   have hb2:=xh hbel
   clear hown hbel
   go_wp2_with (go_at_call 84;refine(zhe _ v _ hat).mono ?_;rintro e w' ⟨rfl,rfl⟩)
   go_roundw
   case rel=>
    refine⟨k+1,by omega,by go_num,?_,hb2.out.setCell (by simp) _,by rw[World.cell?_setCell_other _ _ _ _ (by simp)];exact hat⟩
    rw[←zmq,zhj]
    exact(hst.out _).1
   case measure=>simp[intOf];omega
  ·obtain rfl:k=n:=by omega
   have ho:=xh hown
   have hb2:=xh hbel
   clear hown hbel hat
   go_wp2
   go_ret
   refine⟨_,rfl,?_,hb2.out⟩
   have hr:=ho.out
   rw[zh1]at hr
   exact zfJ hr (by omega) (fun i _=>by omega)
def zcJ (v n:Int):Prop:=1≤n∧n≤7∧0≤v∧v<zao n.toNat
instance (v n:Int):Decidable (zcJ v n):=by unfold zcJ;infer_instance
def putB (v n:Int):List Int:=if zcJ v n then lo v n.toNat else[]
def putE (v n:Int):Int:=if zcJ v n then 0 else 1
def zms (v n:Int)(w:World)(e:Ending)(w':World):Prop:=∃r,e=.returned (.tuple #[r,xI (putE v n)])∧Bs w' r (putB v n)∧Below w.heap.size w w'
theorem zd0 (w:World):Bs w xS []:=⟨by simp,by simp,.inl ⟨none,0,rfl,fun _=>rfl,rfl⟩⟩
theorem ze4 {v n:Int}(w:World)(h:¬zcJ v n):zms v n w (.returned (.tuple #[xS,xI 1])) w:=
 ⟨_,by rw[putE,if_neg h],by rw[putB,if_neg h];exact zd0 w,Below.refl _ _⟩
theorem zpq (N:Nat):(2:Int)^(8*N)=zao N:=by
 induction N with
 | zero=>rfl
 | succ N ih=>rw[Nat.mul_succ,Int.pow_add,ih,Int.mul_comm];rfl
theorem zgX (N:Nat)(h:N≤7):wrap64 ((2:Int)^(8*N))=zao N:=by
 have h1:=zcg N
 have h2:=zbI h
 rw[zpq];unfold wrap64;omega
theorem zno (v n:Int)(w:World)(hv:v<9223372036854775808):Calls Tryz.prog 42 #[xI v,xI n] w (zms v n w):=by
 by_cases c1:n<1∨7<n∨v<0
 ·have hb:=xh (fun w=>ze4 (v:=v) (n:=n) w (by unfold zcJ;omega))
  rcases c1 with c1|c1|c1
  all_goals
   go_enter Tryz.func42,Tryz.ntmps42
   go_wp2
   all_goals
    go_ret2
    exact hb.out _
 ·obtain⟨N,rfl⟩:=Int.eq_ofNat_of_zero_le (show(0:Int)≤n by omega)
  have n1:(1:Int)≤(N:Int):=by omega
  have n7:(N:Int)≤7:=by omega
  have v0:0≤v:=by omega
  have n1':1≤N:=by omega
  have n8':N≤8:=by omega
  clear c1
  by_cases c2:v<zao N
  ·have hg:Hid (zcJ v N):=⟨n1,n7,v0,c2⟩
   rw[←zgX N (by omega)]at c2
   go_enter Tryz.func42,Tryz.ntmps42
   go_wp2_with (go_at_call 65;refine(zf4 v N _ v0 n1' n8').mono ?_;rintro e w' ⟨r,rfl,hr,hbel⟩)
   go_ret2
   exact⟨r,by rw[putE,if_pos hg.out];rfl,by rw[putB,if_pos hg.out];exact hr,hbel⟩
  ·have hb:=xh (fun w=>ze4 (v:=v) (n:=N) w (by unfold zcJ;simp only[Int.toNat_natCast];omega))
   rw[←zgX N (by omega)]at c2
   go_enter Tryz.func42,Tryz.ntmps42
   go_wp2
   go_ret2
   exact hb.out _
theorem zgD (v:Int)(w:World):
  Calls Tryz.prog 132 #[xI v] w (znj (lo (IntKind.u64.wrap v) 8) w):=by
 have h0:0≤IntKind.u64.wrap v:=by rw[IntKind.wrap_u64];omega
 go_enter Tryz.func132,Tryz.ntmps132
 go_wp2_with (go_at_call 65;refine(zf4 _ 8 _ h0 (by omega) (by omega)).mono ?_;rintro e w' ⟨r,rfl,hr,hbel⟩)
 go_ret
 exact⟨r,rfl,hr,hbel⟩
theorem zcp {xs:List Int}(k j:Nat)(h:k+j<xs.length):segN xs k (j+1)=256*segN xs k j+xs.getD (k+j) 0:=zj4 xs k j h
theorem zfK {xs:List Int}(hx:∀x∈xs,0≤x∧x<256)(k j:Nat):0≤segN xs k j∧segN xs k j<zao j:=by
 have h1:=zjY _ (zbw hx k j)
 have h2:=zeu (n:=((xs.drop k).take j).length) (m:=j) (by simp;omega)
 unfold segN
 omega
theorem zaF (v:Value)(xs:List Int)(k n:Int)(w:World)(hv:Bs w v xs):
  Calls Tryz.prog 35 #[v,xI k,xI n] w fun e w'=>e=.returned (tri (getS xs k n))∧w=w':=by
 by_cases c1:n<1∨7<n∨k<0∨(xs.length:Int)<k
 ·have hf:tri (getS xs k n)=.tuple #[xI 0,xI 0,xI 1]:=by
   unfold getS;rw[if_pos c1];rfl
  rw[hf]
  clear hf
  obtain⟨hx,hl,⟨a,cap,rfl,-,rfl⟩|⟨b,off,cap,rfl,hcap,hc⟩⟩:=hv
  all_goals
   clear hx
   first|(simp only[List.length_nil,Int.ofNat_zero]at c1)|clear hc
   rcases c1 with c1|c1|c1|c1
  all_goals
   go_enter Tryz.func35,Tryz.ntmps35
   go_wp2
   all_goals
    go_ret3
    exact⟨rfl,rfl⟩
 ·have n1:1≤n:=by omega
  have n7:n≤7:=by omega
  have k0:0≤k:=by omega
  have k1:k≤(xs.length:Int):=by omega
  by_cases c3:(xs.length:Int)-k<n
  ·have hf:tri (getS xs k n)=.tuple #[xI 0,xI 0,xI 6]:=by
    unfold getS;rw[if_neg c1,if_pos c3];rfl
   rw[hf]
   clear hf c1
   obtain⟨hx,hl,⟨a,cap,rfl,-,rfl⟩|⟨b,off,cap,rfl,hcap,hc⟩⟩:=hv
   ·simp only[List.length_nil]at k1 c3
    have hk0:k=0:=by omega
    subst hk0
    clear c3
    go_enter Tryz.func35,Tryz.ntmps35
    go_wp2
    go_ret3
    exact⟨rfl,rfl⟩
   ·clear hx hc
    go_enter Tryz.func35,Tryz.ntmps35
    go_wp2
    go_ret3
    exact⟨rfl,rfl⟩
  ·obtain⟨K,rfl⟩:=Int.eq_ofNat_of_zero_le k0
   obtain⟨N,rfl⟩:=Int.eq_ofNat_of_zero_le (show(0:Int)≤n by omega)
   have hf:Hid (tri (getS xs K N)=.tuple #[xI (segN xs K N),xI ((K:Int)+(N:Int)),xI 0]):=by
    unfold getS;rw[if_neg c1,if_neg c3];rfl
   clear c1
   have c3':(N:Int)≤(xs.length:Int)-(K:Int):=by omega
   clear c3
   obtain⟨hx,hl,⟨a,cap,rfl,-,rfl⟩|⟨b,off,cap,rfl,hcap,hc⟩⟩:=hv
   ·simp at c3';omega
   ·go_enter Tryz.func35,Tryz.ntmps35
    go_wp2
    go_loop [9,10] (fun a i=>∃j:Nat,j≤N∧i=xI j∧a=xI (segN xs K j)) (fun _ i=>N-(intOf i).toNat)
    case atStart=>exact⟨0,Nat.zero_le _,rfl,rfl⟩
    case round=>
     obtain⟨j,hj,rfl,rfl⟩:=hrel
     by_cases hlt:j<N
     ·obtain⟨c,hg,b1,b2,hck⟩:=ziI hx hc (K+j) (by omega)
      have hs:=xh (zcp (xs:=xs) K j (by omega))
      obtain⟨d1,d2⟩:=zfK hx K j
      have d3:=zbI (n:=j+1) (by omega)
      simp only[zao]at d3
      have i1:(K:Int)+(j:Int)<(xs.length:Int):=by omega
      clear hx hc
      go_wp2
      go_round
      case rel=>exact⟨j+1,by omega,by go_num,zcE (by rw[hs.out,hg.out])⟩
      case measure=>simp[intOf];omega
     ·obtain rfl:j=N:=by omega
      clear hx hc
      go_wp2
      go_ret3
      exact⟨congrArg Ending.returned hf.out.symm,rfl⟩
def sgn (xs:List Int)(k j:Nat):Int:=if 127<xs.getD k 0 then segN xs k j-zao j else segN xs k j
theorem znT {xs:List Int}(k:Nat)(h:k<xs.length):sgn xs k 1=if 127<xs.getD k 0 then xs.getD k 0-256 else xs.getD k 0:=by
 have:=zcp (xs:=xs) k 0 (by omega)
 have z:segN xs k 0=0:=rfl
 unfold sgn
 rw[this,z]
 simp only[Nat.add_zero,zao]
 split<;>omega
theorem zk9 {xs:List Int}(k j:Nat)(h:k+j<xs.length):sgn xs k (j+1)=256*sgn xs k j+xs.getD (k+j) 0:=by
 have:=zcp (xs:=xs) k j h
 unfold sgn
 rw[this]
 simp only[zao]
 split<;>omega
theorem zaQ {xs:List Int}(hx:∀x∈xs,0≤x∧x<256){k:Nat}(h:k<xs.length):0≤xs.getD k 0∧xs.getD k 0<256:=by
 have e:xs.getD k 0=xs[k]:=by simp[List.getD,h]
 rw[e];exact hx _ (List.getElem_mem h)
theorem znx {xs:List Int}(hx:∀x∈xs,0≤x∧x<256)(k j:Nat)(h:k+j<xs.length):segN xs k (j+1)<zao j*xs.getD k 0+zao j∧zao j*xs.getD k 0≤segN xs k (j+1):=by
 induction j with
 | zero=>
  have:=zcp (xs:=xs) k 0 h
  have z:segN xs k 0=0:=rfl
  rw[this,z];simp only[zao,Nat.add_zero];omega
 | succ j ih=>
  have h1:=ih (by omega)
  have h2:=zcp (xs:=xs) k (j+1) h
  have h3:=zaQ hx h
  rw[h2]
  simp only[zao]
  rw[Int.mul_assoc]
  omega
theorem zmu {xs:List Int}(hx:∀x∈xs,0≤x∧x<256)(k j:Nat)(h:k+j<xs.length): -(128*zao j)≤sgn xs k (j+1)∧sgn xs k (j+1)<128*zao j:=by
 have h1:=znx hx k j h
 have h2:=zaQ hx (k:=k) (by omega)
 have hp:=zcg j
 unfold sgn
 simp only[zao]
 generalize zao j=p at*
 generalize segN xs k (j+1)=S at*
 generalize xs.getD k 0=x at*
 split
 ·have:p*128≤p*x:=Int.mul_le_mul_of_nonneg_left (by omega) (by omega)
  have:p*x≤p*255:=Int.mul_le_mul_of_nonneg_left (by omega) (by omega)
  omega
 ·have:p*x≤p*127:=Int.mul_le_mul_of_nonneg_left (by omega) (by omega)
  have:p*0≤p*x:=Int.mul_le_mul_of_nonneg_left (by omega) (by omega)
  omega
theorem zkz {xs:List Int}(hx:∀x∈xs,0≤x∧x<256)(k:Nat)(h:k+8≤xs.length):wrap64 (segN xs k 8)=sgn xs k 8:=by
 have h1:=zmu hx k 7 (by omega)
 rw[show(7+1:Nat)=8 from rfl]at h1
 have h2:=zfK hx k 8
 have e8:zao 8=18446744073709551616:=by decide
 rw[zd1]at h1
 unfold sgn at h1 ⊢
 rw[e8]at h1 h2 ⊢
 unfold wrap64
 split at h1<;>simp only[*,if_true,if_false]<;>omega
theorem zkv {xs:List Int}(hx:∀x∈xs,0≤x∧x<256)(k j:Nat)(h1:1≤j)(h7:j≤7)(h:k+j≤xs.length): -36028797018963968≤sgn xs k j∧sgn xs k j<36028797018963968:=by
 obtain⟨i,rfl⟩:∃i,j=i+1:=⟨j-1,by omega⟩
 have h2:=zmu hx k i (by omega)
 have h3:=zeu (n:=i) (m:=6) (by omega)
 have h4:zao 6=281474976710656:=by decide
 omega
theorem zdb (v:Value)(xs:List Int)(k:Int)(w:World)(hv:Bs w v xs):
  Calls Tryz.prog 99 #[v,xI k] w fun e w'=>e=.returned (tri (zaH xs k))∧w=w':=by
 by_cases c1:k<0∨(xs.length:Int)<k
 ·have hf:tri (zaH xs k)=.tuple #[xI 0,xI 0,xI 1]:=by
   unfold zaH;rw[if_pos c1];rfl
  rw[hf]
  clear hf
  obtain⟨hx,hl,⟨a,cap,rfl,-,rfl⟩|⟨b,off,cap,rfl,hcap,hc⟩⟩:=hv
  all_goals
   clear hx
   first|(simp only[List.length_nil,Int.ofNat_zero]at c1)|clear hc
   rcases c1 with c1|c1
  all_goals
   go_enter Tryz.func99,Tryz.ntmps99
   go_wp2
   all_goals
    go_ret3
    exact⟨rfl,rfl⟩
 ·have k0:0≤k:=by omega
  have k1:k≤(xs.length:Int):=by omega
  by_cases c3:(xs.length:Int)-k<8
  ·have hf:tri (zaH xs k)=.tuple #[xI 0,xI 0,xI 6]:=by
    unfold zaH;rw[if_neg c1,if_pos c3];rfl
   rw[hf]
   clear hf c1
   obtain⟨hx,hl,⟨a,cap,rfl,-,rfl⟩|⟨b,off,cap,rfl,hcap,hc⟩⟩:=hv
   ·simp only[List.length_nil]at k1 c3
    have hk0:k=0:=by omega
    subst hk0
    clear c3
    go_enter Tryz.func99,Tryz.ntmps99
    go_wp2
    go_ret3
    exact⟨rfl,rfl⟩
   ·clear hx hc
    go_enter Tryz.func99,Tryz.ntmps99
    go_wp2
    go_ret3
    exact⟨rfl,rfl⟩
  ·obtain⟨K,rfl⟩:=Int.eq_ofNat_of_zero_le k0
   have hf:Hid (tri (zaH xs K)=.tuple #[xI (sgn xs K 8),xI ((K:Int)+8),xI 0]):=by
    unfold zaH;rw[if_neg c1,if_neg c3,Int.toNat_natCast,zkz hv.1 K (by omega)];rfl
   clear c1
   have c3':(8:Int)≤(xs.length:Int)-(K:Int):=by omega
   clear c3
   obtain⟨hx,hl,⟨a,cap,rfl,-,rfl⟩|⟨b,off,cap,rfl,hcap,hc⟩⟩:=hv
   ·simp at c3';omega
   ·obtain⟨c0,hg0,a1,a2,hck0⟩:=ziI hx hc K (by omega)
    have i0:(K:Int)<(xs.length:Int):=by omega
    have hs1:=xh (znT (xs:=xs) K (by omega))
    by_cases h127:127<c0
    all_goals
     go_enter Tryz.func99,Tryz.ntmps99
     go_wp2
     go_loop [7,8] (fun a i=>∃j:Nat,1≤j∧j≤8∧i=xI j∧a=xI (sgn xs K j)) (fun _ i=>8-(intOf i).toNat)
     case atStart=>exact⟨1,by omega,by omega,rfl,zcE (by rw[hs1.out,hg0.out];split<;>omega)⟩
     case round=>
      obtain⟨j,hj1,hj,rfl,rfl⟩:=hrel
      by_cases hlt:j<8
      ·obtain⟨c,hg,b1,b2,hck⟩:=ziI hx hc (K+j) (by omega)
       have hs:=xh (zk9 (xs:=xs) K j (by omega))
       obtain⟨d1,d2⟩:=zkv hx K j hj1 (by omega) (by omega)
       have i1:(K:Int)+(j:Int)<(xs.length:Int):=by omega
       clear hx hc hck0 h127
       go_wp2
       go_round
       case rel=>exact⟨j+1,by omega,by omega,by go_num,zcE (by rw[hs.out,hg.out])⟩
       case measure=>simp[intOf];omega
      ·obtain rfl:j=8:=by omega
       clear hx hc hck0
       go_wp2
       go_ret3
       exact⟨congrArg Ending.returned hf.out.symm,rfl⟩
end Go.Proofs.YtjghebcnmoojmaaGreat
