/- Numbers one behind the other: Levels, and which height is less. The reference's heights: Objects: Objects: -/
import Derived.Test.YtjghebcnmoojmaaGreatV04
set_option maxRecDepth 100000
set_option maxHeartbeats 32000000
namespace Go.Proofs.YtjghebcnmoojmaaGreat
open Go.RowKit MX
section
open Go.Sort
def Ints (w:World)(v:Value)(xs:List Int):Prop:=
 ∃b,v=.slice (some (xQ b 0)) xs.length xs.length∧xs.length≤1000∧∀i,i<xs.length→w.cell? ⟨b,i,none⟩=xJ (xs.getD i 0)
theorem Ints.below {w w':World}{v:Value}{xs:List Int}(h:Ints w v xs)(hb:Below w.heap.size w w'):Ints w' v xs:=by
 obtain⟨b,h1,h2,h3⟩:=h
 exact⟨b,h1,h2,fun i hi=>by rw[hb.cell (World.block_lt_of_cell? w _ (h3 i hi))];exact h3 i hi⟩
end
section
open Go.Sort
def Cells3 (w:World)(b:Nat)(t o r:Int):Prop:=
 w.cell? (xQ b 0)=xJ t∧w.cell? (xQ b 1)=xJ o∧w.cell? (xQ b 2)=xJ r
theorem Cells3.below {w w':World}{b:Nat}{t o r:Int}(h:Cells3 w b t o r)(hb:Below w.heap.size w w'):Cells3 w' b t o r:=by
 obtain⟨h0,h1,h2⟩:=h
 have k:∀{a:Addr} {v:Value},w.cell? a=some v→w'.cell? a=some v:=fun h=>by rw[hb.cell (World.block_lt_of_cell? w _ h)];exact h
 exact⟨k h0,k h1,k h2⟩
def Own3 (w:World)(b:Nat)(x y z:Int):Prop:=Cells3 w b x y z∧∀k,w.frozen? ⟨b,k,none⟩=false
def Own6 (w:World)(b:Nat)(n:Bool)(t o r d i:Int):Prop:=Cells6 w b n t o r d i∧∀k,w.frozen? ⟨b,k,none⟩=false
theorem Own3.below {W w':World}{b:Nat}{x y z:Int}(h:Own3 W b x y z)(hb:Below W.heap.size W w'):Own3 w' b x y z:=
 ⟨h.1.below hb,fun k=>(hb.frozen (p:=⟨b,k,none⟩) (by have hl:=World.block_lt_of_cell? W _ h.1.1;exact hl)).trans (h.2 k)⟩
theorem Own6.below {W w':World}{b:Nat}{n:Bool}{t o r d i:Int}(h:Own6 W b n t o r d i)(hb:Below W.heap.size W w'):Own6 w' b n t o r d i:=
 ⟨h.1.below hb,fun k=>(hb.frozen (p:=⟨b,k,none⟩) (by have hl:=World.block_lt_of_cell? W _ h.1.1;exact hl)).trans (h.2 k)⟩
theorem zar (w:World)(n:Bool)(t o r d i:Int)(T:TypeId)(g:Nat)(hg:g=w.heap.size):Own6 (w.alloc (.cells (xB n t o r d i) T)) g n t o r d i:=by
 subst hg
 exact⟨zaU w n t o r d i T,fun k=>by simp⟩
theorem set6 {w:World}{b:Nat}{m:Bool}{x1 x2 x3 x4 x5:Int}(h:Cells6 w b m x1 x2 x3 x4 x5)(n:Bool)(t o r d i:Int):Cells6 (xC w b (xB n t o r d i)) b n t o r d i:=by
 obtain⟨h0,h1,h2,h3,h4,h5⟩:=h
 refine⟨?_,?_,?_,?_,?_,?_⟩<;>simp[go_sem,h0,h1,h2,h3,h4,h5]
theorem zbr {B:Nat}{a w:World}{b:Nat}(h:Below B a w)(hB:B≤b)(n:Bool)(t o r d i:Int):Below B a (xC w b (xB n t o r d i)):=
 (((((h.setCell (by exact hB) _).setCell (by exact hB) _).setCell (by exact hB) _).setCell (by exact hB) _).setCell (by exact hB) _).setCell (by exact hB) _
def atV (t o r d i:Int):Value:=if HtOk false t o r d i then .tuple #[.agg (xB false t o r d i),xI 0]else .tuple #[.agg xE,xI 1]
theorem zmI (t o r d i:Int)(w:World):
  Calls Tryz.prog 156 #[.agg #[xI t,xI o,xI r],xI d,xI i] w fun e w'=>e=.returned (atV t o r d i)∧Below w.heap.size w w':=by
 by_cases h:HtOk false t o r d i
 ·rw[atV,if_pos h]
  have hq:=zb9 h
  clear h
  go_enter Tryz.func156,Tryz.ntmps156
  go_wp2_with (go_at_call 151;refine(zbe _ _ _ _ _ _ _).mono ?_;rintro e w' ⟨rfl,hb⟩;rw[hq];have⟨⟨c0,c1,c2,c3,c4,c5⟩,_⟩:=(zar ((w.alloc (.cells #[xI t,xI o,xI r] 61)).alloc (.cells xE 59)) false t o r d i 59 (w.heap.size+1+1) (by simp)).below hb;have⟨⟨k0,k1,k2,k3,k4,k5⟩,fz⟩:=((zar (w.alloc (.cells #[xI t,xI o,xI r] 61)) false 0 0 0 0 0 59 (w.heap.size+1) (by simp)).below (xr.alloc xl (.cells (xB false t o r d i) 59))).below hb;have HB:Hid (Below w.heap.size w w'):=(((xr.alloc xl _).alloc (by simp) _).alloc (by simp;omega) _).trans (hb.mono (by simp;omega));clear hb)
  have hs:=set6 ⟨k0,k1,k2,k3,k4,k5⟩ false t o r d i
  have hbs:=zbr (b:=w.heap.size+1) HB.out (by omega) false t o r d i
  generalize (xC w' (w.heap.size+1) (xB false t o r d i):World)=W5 at*
  obtain⟨s0,s1,s2,s3,s4,s5⟩:=hs
  exact bodyPost_ret (v:=.tuple #[.agg (xB false t o r d i),xI 0]) (by simp[results,Tryz.results156,go_sem,s0,s1,s2,s3,s4,s5]) rfl ⟨rfl,hbs⟩
 ·rw[atV,if_neg h]
  have hq:=zc0 h
  clear h
  go_enter Tryz.func156,Tryz.ntmps156
  go_wp2_with (go_at_call 151;refine(zbe _ _ _ _ _ _ _).mono ?_;rintro e w' ⟨rfl,hb⟩;rw[hq];have⟨⟨c0,c1,c2,c3,c4,c5⟩,_⟩:=(zar ((w.alloc (.cells #[xI t,xI o,xI r] 61)).alloc (.cells xE 59)) false t o r d i 59 (w.heap.size+1+1) (by simp)).below hb;have⟨⟨k0,k1,k2,k3,k4,k5⟩,fz⟩:=((zar (w.alloc (.cells #[xI t,xI o,xI r] 61)) false 0 0 0 0 0 59 (w.heap.size+1) (by simp)).below (xr.alloc xl (.cells (xB false t o r d i) 59))).below hb;have HB:Hid (Below w.heap.size w w'):=(((xr.alloc xl _).alloc (by simp) _).alloc (by simp;omega) _).trans (hb.mono (by simp;omega));clear hb)
  have hs:=set6 ⟨k0,k1,k2,k3,k4,k5⟩ false 0 0 0 0 0
  have hbs:=zbr (b:=w.heap.size+1) HB.out (by omega) false 0 0 0 0 0
  generalize (xC w' (w.heap.size+1) xE:World)=W5 at*
  obtain⟨s0,s1,s2,s3,s4,s5⟩:=hs
  exact bodyPost_ret (v:=.tuple #[.agg xE,xI 1]) (by simp[results,Tryz.results156,go_sem,s0,s1,s2,s3,s4,s5]) rfl ⟨rfl,hbs⟩
end
section
open Go.Sort
theorem htF {t o r d i:Int}:HtOk false t o r d i↔zaC i∧zcd t o r d:=by simp[HtOk]
theorem zbm (n:Bool)(t o r d i:Int)(w:World):
  Calls Tryz.prog 109 #[.agg (xB n t o r d i)] w fun e w'=>e=.returned (.bool (decide (HtOk n t o r d i)))∧Below w.heap.size w w':=by
 have E1:=zcG
 have E2:=zg0
 cases n with
 | true=>
  cases hq:eqH true t o r d i true 0 0 0 0 i with
  | true=>
   have hn:zeX t o r d:=⟨(zbC.1 hq).2.1,(zbC.1 hq).2.2.1,(zbC.1 hq).2.2.2.1,(zbC.1 hq).2.2.2.2.1⟩
   go_enter Tryz.func109,Tryz.ntmps109
   go_wp2_with fail
   all_goals
    go_ret
    first
     | exact⟨zbR ⟨by unfold zaC;omega,.inl ⟨rfl,hn⟩⟩,xr.alloc xl _⟩
     | exact⟨zaN (fun h=>by have:=h.1;unfold zaC at this;omega),xr.alloc xl _⟩
  | false=>
   have hn:¬HtOk true t o r d i:=fun h=>by
     rcases h.2 with ⟨-,rfl,rfl,rfl,rfl⟩|⟨h,-⟩
     ·rw[zbC.2 ⟨rfl,rfl,rfl,rfl,rfl,rfl⟩]at hq;cases hq
     ·cases h
   have HN:=xh hn
   clear hn
   go_enter Tryz.func109,Tryz.ntmps109
   go_wp2_with fail
   all_goals
    go_ret
    exact⟨zaN HN.out,xr.alloc xl _⟩
 | false=>
  go_enter Tryz.func109,Tryz.ntmps109
  go_wp2_with fail
  all_goals
   go_ret
   first
    | exact⟨zaN (fun h=>by have h:=htF.1 h;unfold zcd zaC at h;omega),xr.alloc xl _⟩
    | exact⟨zb3 (Iff.trans (by unfold zcd zaC;omega) htF.symm),xr.alloc xl _⟩
theorem zgQ {n:Bool}{t o r d i:Int}:(decide (HtOk n t o r d i)&& !n)=told n t o r d i:=by unfold told;cases n<;>simp
theorem zjJ (n:Bool)(t o r d i:Int)(w:World):
  Calls Tryz.prog 110 #[.agg (xB n t o r d i)] w fun e w'=>e=.returned (.bool (told n t o r d i))∧Below w.heap.size w w':=by
 by_cases h:HtOk n t o r d i
 ·have hd:decide (HtOk n t o r d i)=true:=decide_eq_true h
  have ht:told n t o r d i= !n:=by rw[←zgQ,hd];simp
  rw[ht]
  clear h ht
  go_enter Tryz.func110,Tryz.ntmps110
  go_wp2_with (go_at_call 109;refine(zbm _ _ _ _ _ _ _).mono ?_;rintro e w' ⟨rfl,hb⟩;rw[hd];have⟨c0,c1,c2,c3,c4,c5⟩:=(zaU w n t o r d i 59).below hb)
  go_ret
  exact⟨rfl,(xr.alloc xl _).trans (hb.mono (by simp))⟩
 ·have hd:decide (HtOk n t o r d i)=false:=decide_eq_false h
  have ht:told n t o r d i=false:=by rw[←zgQ,hd];simp
  rw[ht]
  clear h ht
  go_enter Tryz.func110,Tryz.ntmps110
  go_wp2_with (go_at_call 109;refine(zbm _ _ _ _ _ _ _).mono ?_;rintro e w' ⟨rfl,hb⟩;rw[hd])
  go_ret
  exact⟨rfl,(xr.alloc xl _).trans (hb.mono (by simp))⟩
end
section
open Go.Sort
theorem zke (i:Int)(w:World):
  Calls Tryz.prog 147 #[xI i] w fun e w'=>e=.returned (.bool (decide (zaC i)))∧w=w':=by
 go_enter Tryz.func147,Tryz.ntmps147
 go_wp2
 all_goals
  go_ret
  first
   | exact⟨zaN (by unfold zaC;omega),rfl⟩
   | exact⟨zb3 (by unfold zaC;omega),rfl⟩
def zdQ (m:Int)(b:Bool):Prop:=if b then 0≤m∧m≤65535 else m=0
instance (m:Int)(b:Bool):Decidable (zdQ m b):=by unfold zdQ;infer_instance
theorem zlt (m:Int)(b:Bool)(w:World):
  Calls Tryz.prog 150 #[xI m,.bool b] w fun e w'=>e=.returned (.bool (decide (zdQ m b)))∧w=w':=by
 cases b with
 | false=>
  by_cases h:m=0
  ·subst h
   go_enter Tryz.func150,Tryz.ntmps150
   go_wp2
   go_ret
   exact⟨rfl,rfl⟩
  ·have hne:(m==0)=false:=by simpa using h
   have H:=xh h
   clear h
   go_enter Tryz.func150,Tryz.ntmps150
   go_wp2
   go_ret
   exact⟨zaN (fun h=>H.out (by simpa [zdQ]using h)),rfl⟩
 | true=>
  go_enter Tryz.func150,Tryz.ntmps150
  go_wp2
  all_goals
   go_ret
   first
    | exact⟨zaN (by simp only[zdQ,if_true];omega),rfl⟩
    | exact⟨zb3 (by simp only[zdQ,if_true];omega),rfl⟩
def kn (k:Int):Bool:=k==1||(k==2||(k==3||k==4))
def lvB (k:Int):Bool:=k==3
def hgB (k:Int):Bool:=k==2||k==4
def nuB (k:Int):Bool:=k==4
def zbK (k:Int):Value:=.agg #[.bool (kn k),.bool (lvB k),.bool (hgB k),.bool (nuB k)]
theorem za3 (k:Int)(w:World):
  Calls Tryz.prog 131 #[xI k] w fun e w'=>e=.returned (zbK k)∧Below w.heap.size w w':=by
 by_cases h4:k=4
 ·subst h4
  go_enter Tryz.func131,Tryz.ntmps131
  go_wp2_with fail
  refine bodyPost_ret (v:=.agg #[.bool true,.bool false,.bool true,.bool true]) (by simp[results,Tryz.results131,go_sem]) rfl ⟨rfl,?_⟩
  repeat (first|exact Below.refl _ _|refine Below.setCell ?_ (by simp) _|refine Below.alloc ?_ (by simp) _)
 by_cases h2:k=2
 ·subst h2
  go_enter Tryz.func131,Tryz.ntmps131
  go_wp2_with fail
  refine bodyPost_ret (v:=.agg #[.bool true,.bool false,.bool true,.bool false]) (by simp[results,Tryz.results131,go_sem]) rfl ⟨rfl,?_⟩
  repeat (first|exact Below.refl _ _|refine Below.setCell ?_ (by simp) _|refine Below.alloc ?_ (by simp) _)
 by_cases h1:k=1
 ·subst h1
  go_enter Tryz.func131,Tryz.ntmps131
  go_wp2_with fail
  refine bodyPost_ret (v:=.agg #[.bool true,.bool false,.bool false,.bool false]) (by simp[results,Tryz.results131,go_sem]) rfl ⟨rfl,?_⟩
  repeat (first|exact Below.refl _ _|refine Below.setCell ?_ (by simp) _|refine Below.alloc ?_ (by simp) _)
 by_cases h3:k=3
 ·subst h3
  go_enter Tryz.func131,Tryz.ntmps131
  go_wp2_with fail
  refine bodyPost_ret (v:=.agg #[.bool true,.bool true,.bool false,.bool false]) (by simp[results,Tryz.results131,go_sem]) rfl ⟨rfl,?_⟩
  repeat (first|exact Below.refl _ _|refine Below.setCell ?_ (by simp) _|refine Below.alloc ?_ (by simp) _)
 have e4:(k==4)=false:=by simpa using h4
 have e2:(k==2)=false:=by simpa using h2
 have e1:(k==1)=false:=by simpa using h1
 have e3:(k==3)=false:=by simpa using h3
 have hv:Ending.returned (.agg #[.bool false,.bool false,.bool false,.bool false])=.returned (zbK k):=by simp[zbK,kn,lvB,hgB,nuB,e1,e2,e3,e4]
 have HV:=xh hv
 clear hv h1 h2 h3 h4
 go_enter Tryz.func131,Tryz.ntmps131
 go_wp2_with fail
 refine bodyPost_ret (v:=.agg #[.bool false,.bool false,.bool false,.bool false]) (by simp[results,Tryz.results131,go_sem]) rfl ⟨HV.out,?_⟩
 repeat (first|exact Below.refl _ _|refine Below.setCell ?_ (by simp) _|refine Below.alloc ?_ (by simp) _)
def LvOk (t o r:Int)(b:Bool):Prop:=if b then HtOk false t o r 0 0 else t=0∧o=0∧r=0
instance (t o r:Int)(b:Bool):Decidable (LvOk t o r b):=by unfold LvOk;infer_instance
theorem zk6 (t o r:Int)(b:Bool)(w:World):
  Calls Tryz.prog 148 #[.agg #[xI t,xI o,xI r],.bool b] w fun e w'=>e=.returned (.bool (decide (LvOk t o r b)))∧Below w.heap.size w w':=by
 have E1:=zdJ
 have E2:=ziR
 cases b with
 | false=>
  have hd:Ending.returned (.bool (eqL t o r 0 0 0))=.returned (.bool (decide (LvOk t o r false))):=by
   congr 2
   rw[Bool.eq_iff_iff,zgB]
   simp[LvOk]
  have HD:=xh hd
  clear hd
  go_enter Tryz.func148,Tryz.ntmps148
  go_wp2_with fail
  go_ret
  exact⟨HD.out,xr.alloc xl _⟩
 | true=>
  by_cases h:HtOk false t o r 0 0
  ·have hd:Ending.returned (.bool true)=.returned (.bool (decide (LvOk t o r true))):=zbR h
   have HD:=xh hd
   have hv:atV t o r 0 0=.tuple #[.agg (xB false t o r 0 0),xI 0]:=by unfold atV;rw[if_pos h]
   clear hd h
   go_enter Tryz.func148,Tryz.ntmps148
   go_wp2_with (go_at_call 156;refine(zmI _ _ _ _ _ _).mono ?_;rintro e w' ⟨rfl,hb⟩;rw[hv];have HB:Hid (Below w.heap.size w w'):=(xr.alloc xl _).trans (hb.mono (by simp));clear hb)
   go_ret
   refine⟨HD.out,?_⟩
   repeat (first|exact HB.out|refine Below.setCell ?_ HB.out.size _|refine Below.alloc ?_ HB.out.size _)
  ·have hd:Ending.returned (.bool false)=.returned (.bool (decide (LvOk t o r true))):=zaN h
   have HD:=xh hd
   have hv:atV t o r 0 0=.tuple #[.agg xE,xI 1]:=by unfold atV;rw[if_neg h]
   clear hd h
   go_enter Tryz.func148,Tryz.ntmps148
   go_wp2_with (go_at_call 156;refine(zmI _ _ _ _ _ _).mono ?_;rintro e w' ⟨rfl,hb⟩;rw[hv];have HB:Hid (Below w.heap.size w w'):=(xr.alloc xl _).trans (hb.mono (by simp));clear hb)
   go_ret
   refine⟨HD.out,?_⟩
   repeat (first|exact HB.out|refine Below.setCell ?_ HB.out.size _|refine Below.alloc ?_ HB.out.size _)
def HgOk (n:Bool)(t o r d i:Int)(b:Bool):Prop:=if b then HtOk n t o r d i else n=false∧t=0∧o=0∧r=0∧d=0∧i=0
instance (n:Bool)(t o r d i:Int)(b:Bool):Decidable (HgOk n t o r d i b):=by unfold HgOk;infer_instance
theorem zl5 (n:Bool)(t o r d i:Int)(b:Bool)(w:World):
  Calls Tryz.prog 149 #[.agg (xB n t o r d i),.bool b] w fun e w'=>e=.returned (.bool (decide (HgOk n t o r d i b)))∧Below w.heap.size w w':=by
 have E1:=zcG
 have E2:=zg0
 cases b with
 | false=>
  have hd:Ending.returned (.bool (eqH n t o r d i false 0 0 0 0 0))=.returned (.bool (decide (HgOk n t o r d i false))):=by
   congr 2
   rw[Bool.eq_iff_iff,zbC]
   simp[HgOk]
  have HD:=xh hd
  clear hd
  go_enter Tryz.func149,Tryz.ntmps149
  go_wp2_with fail
  go_ret
  exact⟨HD.out,xr.alloc xl _⟩
 | true=>
  by_cases h:HtOk n t o r d i
  ·have hd:Ending.returned (.bool true)=.returned (.bool (decide (HgOk n t o r d i true))):=zbR h
   have HD:=xh hd
   have hv:=zb9 h
   clear hd h
   go_enter Tryz.func149,Tryz.ntmps149
   go_wp2_with (go_at_call 151;refine(zbe _ _ _ _ _ _ _).mono ?_;rintro e w' ⟨rfl,hb⟩;rw[hv];have HB:Hid (Below w.heap.size w w'):=(xr.alloc xl _).trans (hb.mono (by simp));clear hb)
   go_ret
   exact⟨HD.out,HB.out⟩
  ·have hd:Ending.returned (.bool false)=.returned (.bool (decide (HgOk n t o r d i true))):=zaN h
   have HD:=xh hd
   have hv:=zc0 h
   clear hd h
   go_enter Tryz.func149,Tryz.ntmps149
   go_wp2_with (go_at_call 151;refine(zbe _ _ _ _ _ _ _).mono ?_;rintro e w' ⟨rfl,hb⟩;rw[hv];have HB:Hid (Below w.heap.size w w'):=(xr.alloc xl _).trans (hb.mono (by simp));clear hb)
   go_ret
   exact⟨HD.out,HB.out⟩
def Cells12 (w:World)(b:Nat)(k x:Int)(n:Bool)(t o r d i p q s m:Int):Prop:=
 w.cell? (xQ b 0)=xJ k∧w.cell? (xQ b 1)=xJ x∧w.cell? (xQ b 2)=some (.bool n)∧w.cell? (xQ b 3)=xJ t∧w.cell? (xQ b 4)=xJ o∧w.cell? (xQ b 5)=xJ r∧w.cell? (xQ b 6)=xJ d∧w.cell? (xQ b 7)=xJ i∧w.cell? (xQ b 8)=xJ p∧w.cell? (xQ b 9)=xJ q∧w.cell? (xQ b 10)=xJ s∧w.cell? (xQ b 11)=xJ m
theorem zak (w:World)(k x:Int)(n:Bool)(t o r d i p q s m:Int)(T:TypeId):Cells12 (w.alloc (.cells (xO k x n t o r d i p q s m) T)) w.heap.size k x n t o r d i p q s m:=by
 simp[Cells12]
theorem Cells12.below {w w':World}{b:Nat}{k x:Int}{n:Bool}{t o r d i p q s m:Int}(h:Cells12 w b k x n t o r d i p q s m)(hb:Below w.heap.size w w'):Cells12 w' b k x n t o r d i p q s m:=by
 obtain⟨h0,h1,h2,h3,h4,h5,h6,h7,h8,h9,h10,h11⟩:=h
 have f:∀{a:Addr} {v:Value},w.cell? a=some v→w'.cell? a=some v:=fun h=>by rw[hb.cell (World.block_lt_of_cell? w _ h)];exact h
 exact⟨f h0,f h1,f h2,f h3,f h4,f h5,f h6,f h7,f h8,f h9,f h10,f h11⟩
theorem Cells12.old {w w':World}{b B:Nat}{k x:Int}{n:Bool}{t o r d i p q s m:Int}(h:Cells12 w b k x n t o r d i p q s m)(hb:Below B w w')(hB:b<B):Cells12 w' b k x n t o r d i p q s m:=by
 obtain⟨h0,h1,h2,h3,h4,h5,h6,h7,h8,h9,h10,h11⟩:=h
 have f:∀{j:Nat} {v:Value},w.cell? ⟨b,j,none⟩=some v→w'.cell? ⟨b,j,none⟩=some v:=fun{j v} h=>by rw[hb.cell (p:=⟨b,j,none⟩) hB];exact h
 exact⟨f h0,f h1,f h2,f h3,f h4,f h5,f h6,f h7,f h8,f h9,f h10,f h11⟩
def Cells4 (w:World)(b:Nat)(a0 a1 a2 a3:Bool):Prop:=
 w.cell? (xQ b 0)=some (.bool a0)∧w.cell? (xQ b 1)=some (.bool a1)∧w.cell? (xQ b 2)=some (.bool a2)∧w.cell? (xQ b 3)=some (.bool a3)
theorem Cells4.below {w w':World}{b:Nat}{a0 a1 a2 a3:Bool}(h:Cells4 w b a0 a1 a2 a3)(hb:Below w.heap.size w w'):Cells4 w' b a0 a1 a2 a3:=by
 obtain⟨h0,h1,h2,h3⟩:=h
 have f:∀{a:Addr} {v:Value},w.cell? a=some v→w'.cell? a=some v:=fun h=>by rw[hb.cell (World.block_lt_of_cell? w _ h)];exact h
 exact⟨f h0,f h1,f h2,f h3⟩
theorem zbl (w:World)(a0 a1 a2 a3:Bool):∃V,w.alloc (.cells #[.bool a0,.bool a1,.bool a2,.bool a3] 182)=V∧Cells4 V w.heap.size a0 a1 a2 a3∧Below w.heap.size w V∧w.heap.size<V.heap.size:=by
 refine⟨_,rfl,?_,xr.alloc xl _,by simp⟩
 refine⟨?_,?_,?_,?_⟩<;>simp
def ObOk (k x:Int)(n:Bool)(t o r d i p q s m:Int):Prop:=
 kn k=true∧zaC x∧¬(k=4∧n=true)∧LvOk p q s (lvB k)∧HgOk n t o r d i (hgB k)∧zdQ m (nuB k)
instance (k x:Int)(n:Bool)(t o r d i p q s m:Int):Decidable (ObOk k x n t o r d i p q s m):=by unfold ObOk;infer_instance
def obc (k x:Int)(n:Bool)(t o r d i p q s m:Int):Int:=if ObOk k x n t o r d i p q s m then 0 else 1
end
section
open Go.Sort
theorem zgE (k x:Int)(n:Bool)(t o r d i p q s m:Int)(b0 b1 b2 b3 bx bl bh bn:Bool)(w:World)
  (cP:∀w,Calls Tryz.prog 131 #[xI k] w fun e w'=>e=.returned (.agg #[.bool b0,.bool b1,.bool b2,.bool b3])∧Below w.heap.size w w')
  (cX:∀w,Calls Tryz.prog 147 #[xI x] w fun e w'=>e=.returned (.bool bx)∧w=w') (cL:∀w,Calls Tryz.prog 148 #[.agg #[xI p,xI q,xI s],.bool b1] w fun e w'=>e=.returned (.bool bl)∧Below w.heap.size w w') (cH:∀w,Calls Tryz.prog 149 #[.agg (xB n t o r d i),.bool b2] w fun e w'=>e=.returned (.bool bh)∧Below w.heap.size w w') (cN:∀w,Calls Tryz.prog 150 #[xI m,.bool b3] w fun e w'=>e=.returned (.bool bn)∧w=w'):
  Calls Tryz.prog 130 #[.agg (xO k x n t o r d i p q s m)] w fun e w'=>e=.returned (xI (if(b0&&(bx&&(!(k==4&&n)&&(bl&&(bh&&bn)))))=true then 0 else 1))∧Below w.heap.size w w':=by
 cases b0 with
 | false=>
  have RS:Ending.returned (xI 1)=.returned (xI (if(false&&(bx&&(!(k==4&&n)&&(bl&&(bh&&bn)))))=true then 0 else 1)):=by simp
  replace RS:=xh RS
  go_enter Tryz.func130,Tryz.ntmps130
  go_wp2_with (first
    | (go_at_call 131;refine(cP _).mono ?_;rintro e w1 ⟨rfl,hb⟩;have K:=xh ((zak w k x n t o r d i p q s m 63).below hb);have HB:Hid (Below w.heap.size w w1):=(xr.alloc xl _).trans (hb.mono (by simp));have HL:Hid (w.heap.size<w1.heap.size):=Nat.lt_of_lt_of_le (by simp) hb.size;clear hb;obtain⟨V,hV,hP,hb2,hs2⟩:=zbl w1 false b1 b2 b3;replace K:=xh (K.out.below hb2);replace HB:=xh (HB.out.trans (hb2.mono HB.out.size));clear hb2 hs2 HL;have⟨c0,c1,c2,c3,c4,c5,c6,c7,c8,c9,c10,c11⟩:=K.out;have⟨p0,p1,p2,p3⟩:=hP;clear hP)
    | (go_at_call 147;refine(cX _).mono ?_;rintro e w2 ⟨rfl,hw⟩;subst hw)
    | (go_at_call 148;refine(cL _).mono ?_;rintro e w3 ⟨rfl,hb⟩;replace K:=xh (K.out.below hb);have hP:Cells4 w3 _ _ _ _ _:=(show Cells4 _ _ _ _ _ _ from⟨p0,p1,p2,p3⟩).below hb;replace HB:=xh (HB.out.trans (hb.mono HB.out.size));clear hb;clear c0 c1 c2 c3 c4 c5 c6 c7 c8 c9 c10 c11 p0 p1 p2 p3;have⟨c0,c1,c2,c3,c4,c5,c6,c7,c8,c9,c10,c11⟩:=K.out;have⟨p0,p1,p2,p3⟩:=hP;clear hP)
    | (go_at_call 149;refine(cH _).mono ?_;rintro e w4 ⟨rfl,hb⟩;replace K:=xh (K.out.below hb);have hP:Cells4 w4 _ _ _ _ _:=(show Cells4 _ _ _ _ _ _ from⟨p0,p1,p2,p3⟩).below hb;replace HB:=xh (HB.out.trans (hb.mono HB.out.size));clear hb;clear c0 c1 c2 c3 c4 c5 c6 c7 c8 c9 c10 c11 p0 p1 p2 p3;have⟨c0,c1,c2,c3,c4,c5,c6,c7,c8,c9,c10,c11⟩:=K.out;have⟨p0,p1,p2,p3⟩:=hP;clear hP)
    | (go_at_call 150;refine(cN _).mono ?_;rintro e w5 ⟨rfl,hw⟩;subst hw))
  all_goals
   go_ret
   first|exact⟨RS.out,HB.out⟩|exact⟨rfl,HB.out⟩
 | true=>
  cases bx with
  | false=>
   have RS:Ending.returned (xI 1)=.returned (xI (if(true&&(false&&(!(k==4&&n)&&(bl&&(bh&&bn)))))=true then 0 else 1)):=by simp
   replace RS:=xh RS
   go_enter Tryz.func130,Tryz.ntmps130
   go_wp2_with (first
     | (go_at_call 131;refine(cP _).mono ?_;rintro e w1 ⟨rfl,hb⟩;have K:=xh ((zak w k x n t o r d i p q s m 63).below hb);have HB:Hid (Below w.heap.size w w1):=(xr.alloc xl _).trans (hb.mono (by simp));have HL:Hid (w.heap.size<w1.heap.size):=Nat.lt_of_lt_of_le (by simp) hb.size;clear hb;obtain⟨V,hV,hP,hb2,hs2⟩:=zbl w1 true b1 b2 b3;replace K:=xh (K.out.below hb2);replace HB:=xh (HB.out.trans (hb2.mono HB.out.size));clear hb2 hs2 HL;have⟨c0,c1,c2,c3,c4,c5,c6,c7,c8,c9,c10,c11⟩:=K.out;have⟨p0,p1,p2,p3⟩:=hP;clear hP)
     | (go_at_call 147;refine(cX _).mono ?_;rintro e w2 ⟨rfl,hw⟩;subst hw)
     | (go_at_call 148;refine(cL _).mono ?_;rintro e w3 ⟨rfl,hb⟩;replace K:=xh (K.out.below hb);have hP:Cells4 w3 _ _ _ _ _:=(show Cells4 _ _ _ _ _ _ from⟨p0,p1,p2,p3⟩).below hb;replace HB:=xh (HB.out.trans (hb.mono HB.out.size));clear hb;clear c0 c1 c2 c3 c4 c5 c6 c7 c8 c9 c10 c11 p0 p1 p2 p3;have⟨c0,c1,c2,c3,c4,c5,c6,c7,c8,c9,c10,c11⟩:=K.out;have⟨p0,p1,p2,p3⟩:=hP;clear hP)
     | (go_at_call 149;refine(cH _).mono ?_;rintro e w4 ⟨rfl,hb⟩;replace K:=xh (K.out.below hb);have hP:Cells4 w4 _ _ _ _ _:=(show Cells4 _ _ _ _ _ _ from⟨p0,p1,p2,p3⟩).below hb;replace HB:=xh (HB.out.trans (hb.mono HB.out.size));clear hb;clear c0 c1 c2 c3 c4 c5 c6 c7 c8 c9 c10 c11 p0 p1 p2 p3;have⟨c0,c1,c2,c3,c4,c5,c6,c7,c8,c9,c10,c11⟩:=K.out;have⟨p0,p1,p2,p3⟩:=hP;clear hP)
     | (go_at_call 150;refine(cN _).mono ?_;rintro e w5 ⟨rfl,hw⟩;subst hw))
   all_goals
    go_ret
    first|exact⟨RS.out,HB.out⟩|exact⟨rfl,HB.out⟩
  | true=>
   by_cases h4:k=4
   ·subst h4
    cases n with
    | true=>
     have RS:Ending.returned (xI 1)=.returned (xI (if(true&&(true&&(!((4:Int)==4&&true)&&(bl&&(bh&&bn)))))=true then 0 else 1)):=by simp
     replace RS:=xh RS
     go_enter Tryz.func130,Tryz.ntmps130
     go_wp2_with (first
       | (go_at_call 131;refine(cP _).mono ?_;rintro e w1 ⟨rfl,hb⟩;have K:=xh ((zak w 4 x true t o r d i p q s m 63).below hb);have HB:Hid (Below w.heap.size w w1):=(xr.alloc xl _).trans (hb.mono (by simp));have HL:Hid (w.heap.size<w1.heap.size):=Nat.lt_of_lt_of_le (by simp) hb.size;clear hb;obtain⟨V,hV,hP,hb2,hs2⟩:=zbl w1 true b1 b2 b3;replace K:=xh (K.out.below hb2);replace HB:=xh (HB.out.trans (hb2.mono HB.out.size));clear hb2 hs2 HL;have⟨c0,c1,c2,c3,c4,c5,c6,c7,c8,c9,c10,c11⟩:=K.out;have⟨p0,p1,p2,p3⟩:=hP;clear hP)
       | (go_at_call 147;refine(cX _).mono ?_;rintro e w2 ⟨rfl,hw⟩;subst hw)
       | (go_at_call 148;refine(cL _).mono ?_;rintro e w3 ⟨rfl,hb⟩;replace K:=xh (K.out.below hb);have hP:Cells4 w3 _ _ _ _ _:=(show Cells4 _ _ _ _ _ _ from⟨p0,p1,p2,p3⟩).below hb;replace HB:=xh (HB.out.trans (hb.mono HB.out.size));clear hb;clear c0 c1 c2 c3 c4 c5 c6 c7 c8 c9 c10 c11 p0 p1 p2 p3;have⟨c0,c1,c2,c3,c4,c5,c6,c7,c8,c9,c10,c11⟩:=K.out;have⟨p0,p1,p2,p3⟩:=hP;clear hP)
       | (go_at_call 149;refine(cH _).mono ?_;rintro e w4 ⟨rfl,hb⟩;replace K:=xh (K.out.below hb);have hP:Cells4 w4 _ _ _ _ _:=(show Cells4 _ _ _ _ _ _ from⟨p0,p1,p2,p3⟩).below hb;replace HB:=xh (HB.out.trans (hb.mono HB.out.size));clear hb;clear c0 c1 c2 c3 c4 c5 c6 c7 c8 c9 c10 c11 p0 p1 p2 p3;have⟨c0,c1,c2,c3,c4,c5,c6,c7,c8,c9,c10,c11⟩:=K.out;have⟨p0,p1,p2,p3⟩:=hP;clear hP)
       | (go_at_call 150;refine(cN _).mono ?_;rintro e w5 ⟨rfl,hw⟩;subst hw))
     all_goals
      go_ret
      first|exact⟨RS.out,HB.out⟩|exact⟨rfl,HB.out⟩
    | false=>
     cases bl with
     | false=>
      have RS:Ending.returned (xI 1)=.returned (xI (if(true&&(true&&(!((4:Int)==4&&false)&&(false&&(bh&&bn)))))=true then 0 else 1)):=by simp
      replace RS:=xh RS
      go_enter Tryz.func130,Tryz.ntmps130
      go_wp2_with (first
        | (go_at_call 131;refine(cP _).mono ?_;rintro e w1 ⟨rfl,hb⟩;have K:=xh ((zak w 4 x false t o r d i p q s m 63).below hb);have HB:Hid (Below w.heap.size w w1):=(xr.alloc xl _).trans (hb.mono (by simp));have HL:Hid (w.heap.size<w1.heap.size):=Nat.lt_of_lt_of_le (by simp) hb.size;clear hb;obtain⟨V,hV,hP,hb2,hs2⟩:=zbl w1 true b1 b2 b3;replace K:=xh (K.out.below hb2);replace HB:=xh (HB.out.trans (hb2.mono HB.out.size));clear hb2 hs2 HL;have⟨c0,c1,c2,c3,c4,c5,c6,c7,c8,c9,c10,c11⟩:=K.out;have⟨p0,p1,p2,p3⟩:=hP;clear hP)
        | (go_at_call 147;refine(cX _).mono ?_;rintro e w2 ⟨rfl,hw⟩;subst hw)
        | (go_at_call 148;refine(cL _).mono ?_;rintro e w3 ⟨rfl,hb⟩;replace K:=xh (K.out.below hb);have hP:Cells4 w3 _ _ _ _ _:=(show Cells4 _ _ _ _ _ _ from⟨p0,p1,p2,p3⟩).below hb;replace HB:=xh (HB.out.trans (hb.mono HB.out.size));clear hb;clear c0 c1 c2 c3 c4 c5 c6 c7 c8 c9 c10 c11 p0 p1 p2 p3;have⟨c0,c1,c2,c3,c4,c5,c6,c7,c8,c9,c10,c11⟩:=K.out;have⟨p0,p1,p2,p3⟩:=hP;clear hP)
        | (go_at_call 149;refine(cH _).mono ?_;rintro e w4 ⟨rfl,hb⟩;replace K:=xh (K.out.below hb);have hP:Cells4 w4 _ _ _ _ _:=(show Cells4 _ _ _ _ _ _ from⟨p0,p1,p2,p3⟩).below hb;replace HB:=xh (HB.out.trans (hb.mono HB.out.size));clear hb;clear c0 c1 c2 c3 c4 c5 c6 c7 c8 c9 c10 c11 p0 p1 p2 p3;have⟨c0,c1,c2,c3,c4,c5,c6,c7,c8,c9,c10,c11⟩:=K.out;have⟨p0,p1,p2,p3⟩:=hP;clear hP)
        | (go_at_call 150;refine(cN _).mono ?_;rintro e w5 ⟨rfl,hw⟩;subst hw))
      all_goals
       go_ret
       first|exact⟨RS.out,HB.out⟩|exact⟨rfl,HB.out⟩
     | true=>
      cases bh with
      | false=>
       have RS:Ending.returned (xI 1)=.returned (xI (if(true&&(true&&(!((4:Int)==4&&false)&&(true&&(false&&bn)))))=true then 0 else 1)):=by simp
       replace RS:=xh RS
       go_enter Tryz.func130,Tryz.ntmps130
       go_wp2_with (first
         | (go_at_call 131;refine(cP _).mono ?_;rintro e w1 ⟨rfl,hb⟩;have K:=xh ((zak w 4 x false t o r d i p q s m 63).below hb);have HB:Hid (Below w.heap.size w w1):=(xr.alloc xl _).trans (hb.mono (by simp));have HL:Hid (w.heap.size<w1.heap.size):=Nat.lt_of_lt_of_le (by simp) hb.size;clear hb;obtain⟨V,hV,hP,hb2,hs2⟩:=zbl w1 true b1 b2 b3;replace K:=xh (K.out.below hb2);replace HB:=xh (HB.out.trans (hb2.mono HB.out.size));clear hb2 hs2 HL;have⟨c0,c1,c2,c3,c4,c5,c6,c7,c8,c9,c10,c11⟩:=K.out;have⟨p0,p1,p2,p3⟩:=hP;clear hP)
         | (go_at_call 147;refine(cX _).mono ?_;rintro e w2 ⟨rfl,hw⟩;subst hw)
         | (go_at_call 148;refine(cL _).mono ?_;rintro e w3 ⟨rfl,hb⟩;replace K:=xh (K.out.below hb);have hP:Cells4 w3 _ _ _ _ _:=(show Cells4 _ _ _ _ _ _ from⟨p0,p1,p2,p3⟩).below hb;replace HB:=xh (HB.out.trans (hb.mono HB.out.size));clear hb;clear c0 c1 c2 c3 c4 c5 c6 c7 c8 c9 c10 c11 p0 p1 p2 p3;have⟨c0,c1,c2,c3,c4,c5,c6,c7,c8,c9,c10,c11⟩:=K.out;have⟨p0,p1,p2,p3⟩:=hP;clear hP)
         | (go_at_call 149;refine(cH _).mono ?_;rintro e w4 ⟨rfl,hb⟩;replace K:=xh (K.out.below hb);have hP:Cells4 w4 _ _ _ _ _:=(show Cells4 _ _ _ _ _ _ from⟨p0,p1,p2,p3⟩).below hb;replace HB:=xh (HB.out.trans (hb.mono HB.out.size));clear hb;clear c0 c1 c2 c3 c4 c5 c6 c7 c8 c9 c10 c11 p0 p1 p2 p3;have⟨c0,c1,c2,c3,c4,c5,c6,c7,c8,c9,c10,c11⟩:=K.out;have⟨p0,p1,p2,p3⟩:=hP;clear hP)
         | (go_at_call 150;refine(cN _).mono ?_;rintro e w5 ⟨rfl,hw⟩;subst hw))
       all_goals
        go_ret
        first|exact⟨RS.out,HB.out⟩|exact⟨rfl,HB.out⟩
      | true=>
       cases bn with
       | false=>
        have RS:Ending.returned (xI 1)=.returned (xI (if(true&&(true&&(!((4:Int)==4&&false)&&(true&&(true&&false)))))=true then 0 else 1)):=by simp
        replace RS:=xh RS
        go_enter Tryz.func130,Tryz.ntmps130
        go_wp2_with (first
          | (go_at_call 131;refine(cP _).mono ?_;rintro e w1 ⟨rfl,hb⟩;have K:=xh ((zak w 4 x false t o r d i p q s m 63).below hb);have HB:Hid (Below w.heap.size w w1):=(xr.alloc xl _).trans (hb.mono (by simp));have HL:Hid (w.heap.size<w1.heap.size):=Nat.lt_of_lt_of_le (by simp) hb.size;clear hb;obtain⟨V,hV,hP,hb2,hs2⟩:=zbl w1 true b1 b2 b3;replace K:=xh (K.out.below hb2);replace HB:=xh (HB.out.trans (hb2.mono HB.out.size));clear hb2 hs2 HL;have⟨c0,c1,c2,c3,c4,c5,c6,c7,c8,c9,c10,c11⟩:=K.out;have⟨p0,p1,p2,p3⟩:=hP;clear hP)
          | (go_at_call 147;refine(cX _).mono ?_;rintro e w2 ⟨rfl,hw⟩;subst hw)
          | (go_at_call 148;refine(cL _).mono ?_;rintro e w3 ⟨rfl,hb⟩;replace K:=xh (K.out.below hb);have hP:Cells4 w3 _ _ _ _ _:=(show Cells4 _ _ _ _ _ _ from⟨p0,p1,p2,p3⟩).below hb;replace HB:=xh (HB.out.trans (hb.mono HB.out.size));clear hb;clear c0 c1 c2 c3 c4 c5 c6 c7 c8 c9 c10 c11 p0 p1 p2 p3;have⟨c0,c1,c2,c3,c4,c5,c6,c7,c8,c9,c10,c11⟩:=K.out;have⟨p0,p1,p2,p3⟩:=hP;clear hP)
          | (go_at_call 149;refine(cH _).mono ?_;rintro e w4 ⟨rfl,hb⟩;replace K:=xh (K.out.below hb);have hP:Cells4 w4 _ _ _ _ _:=(show Cells4 _ _ _ _ _ _ from⟨p0,p1,p2,p3⟩).below hb;replace HB:=xh (HB.out.trans (hb.mono HB.out.size));clear hb;clear c0 c1 c2 c3 c4 c5 c6 c7 c8 c9 c10 c11 p0 p1 p2 p3;have⟨c0,c1,c2,c3,c4,c5,c6,c7,c8,c9,c10,c11⟩:=K.out;have⟨p0,p1,p2,p3⟩:=hP;clear hP)
          | (go_at_call 150;refine(cN _).mono ?_;rintro e w5 ⟨rfl,hw⟩;subst hw))
        all_goals
         go_ret
         first|exact⟨RS.out,HB.out⟩|exact⟨rfl,HB.out⟩
       | true=>
        have RS:Ending.returned (xI 0)=.returned (xI (if(true&&(true&&(!((4:Int)==4&&false)&&(true&&(true&&true)))))=true then 0 else 1)):=by simp
        replace RS:=xh RS
        go_enter Tryz.func130,Tryz.ntmps130
        go_wp2_with (first
          | (go_at_call 131;refine(cP _).mono ?_;rintro e w1 ⟨rfl,hb⟩;have K:=xh ((zak w 4 x false t o r d i p q s m 63).below hb);have HB:Hid (Below w.heap.size w w1):=(xr.alloc xl _).trans (hb.mono (by simp));have HL:Hid (w.heap.size<w1.heap.size):=Nat.lt_of_lt_of_le (by simp) hb.size;clear hb;obtain⟨V,hV,hP,hb2,hs2⟩:=zbl w1 true b1 b2 b3;replace K:=xh (K.out.below hb2);replace HB:=xh (HB.out.trans (hb2.mono HB.out.size));clear hb2 hs2 HL;have⟨c0,c1,c2,c3,c4,c5,c6,c7,c8,c9,c10,c11⟩:=K.out;have⟨p0,p1,p2,p3⟩:=hP;clear hP)
          | (go_at_call 147;refine(cX _).mono ?_;rintro e w2 ⟨rfl,hw⟩;subst hw)
          | (go_at_call 148;refine(cL _).mono ?_;rintro e w3 ⟨rfl,hb⟩;replace K:=xh (K.out.below hb);have hP:Cells4 w3 _ _ _ _ _:=(show Cells4 _ _ _ _ _ _ from⟨p0,p1,p2,p3⟩).below hb;replace HB:=xh (HB.out.trans (hb.mono HB.out.size));clear hb;clear c0 c1 c2 c3 c4 c5 c6 c7 c8 c9 c10 c11 p0 p1 p2 p3;have⟨c0,c1,c2,c3,c4,c5,c6,c7,c8,c9,c10,c11⟩:=K.out;have⟨p0,p1,p2,p3⟩:=hP;clear hP)
          | (go_at_call 149;refine(cH _).mono ?_;rintro e w4 ⟨rfl,hb⟩;replace K:=xh (K.out.below hb);have hP:Cells4 w4 _ _ _ _ _:=(show Cells4 _ _ _ _ _ _ from⟨p0,p1,p2,p3⟩).below hb;replace HB:=xh (HB.out.trans (hb.mono HB.out.size));clear hb;clear c0 c1 c2 c3 c4 c5 c6 c7 c8 c9 c10 c11 p0 p1 p2 p3;have⟨c0,c1,c2,c3,c4,c5,c6,c7,c8,c9,c10,c11⟩:=K.out;have⟨p0,p1,p2,p3⟩:=hP;clear hP)
          | (go_at_call 150;refine(cN _).mono ?_;rintro e w5 ⟨rfl,hw⟩;subst hw))
        all_goals
         go_ret
         first|exact⟨RS.out,HB.out⟩|exact⟨rfl,HB.out⟩
   ·have e4:(k==4)=false:=by simpa using h4
    clear h4
    cases bl with
    | false=>
     have RS:Ending.returned (xI 1)=.returned (xI (if(true&&(true&&(!(k==4&&n)&&(false&&(bh&&bn)))))=true then 0 else 1)):=by simp[e4]
     replace RS:=xh RS
     go_enter Tryz.func130,Tryz.ntmps130
     go_wp2_with (first
       | (go_at_call 131;refine(cP _).mono ?_;rintro e w1 ⟨rfl,hb⟩;have K:=xh ((zak w k x n t o r d i p q s m 63).below hb);have HB:Hid (Below w.heap.size w w1):=(xr.alloc xl _).trans (hb.mono (by simp));have HL:Hid (w.heap.size<w1.heap.size):=Nat.lt_of_lt_of_le (by simp) hb.size;clear hb;obtain⟨V,hV,hP,hb2,hs2⟩:=zbl w1 true b1 b2 b3;replace K:=xh (K.out.below hb2);replace HB:=xh (HB.out.trans (hb2.mono HB.out.size));clear hb2 hs2 HL;have⟨c0,c1,c2,c3,c4,c5,c6,c7,c8,c9,c10,c11⟩:=K.out;have⟨p0,p1,p2,p3⟩:=hP;clear hP)
       | (go_at_call 147;refine(cX _).mono ?_;rintro e w2 ⟨rfl,hw⟩;subst hw)
       | (go_at_call 148;refine(cL _).mono ?_;rintro e w3 ⟨rfl,hb⟩;replace K:=xh (K.out.below hb);have hP:Cells4 w3 _ _ _ _ _:=(show Cells4 _ _ _ _ _ _ from⟨p0,p1,p2,p3⟩).below hb;replace HB:=xh (HB.out.trans (hb.mono HB.out.size));clear hb;clear c0 c1 c2 c3 c4 c5 c6 c7 c8 c9 c10 c11 p0 p1 p2 p3;have⟨c0,c1,c2,c3,c4,c5,c6,c7,c8,c9,c10,c11⟩:=K.out;have⟨p0,p1,p2,p3⟩:=hP;clear hP)
       | (go_at_call 149;refine(cH _).mono ?_;rintro e w4 ⟨rfl,hb⟩;replace K:=xh (K.out.below hb);have hP:Cells4 w4 _ _ _ _ _:=(show Cells4 _ _ _ _ _ _ from⟨p0,p1,p2,p3⟩).below hb;replace HB:=xh (HB.out.trans (hb.mono HB.out.size));clear hb;clear c0 c1 c2 c3 c4 c5 c6 c7 c8 c9 c10 c11 p0 p1 p2 p3;have⟨c0,c1,c2,c3,c4,c5,c6,c7,c8,c9,c10,c11⟩:=K.out;have⟨p0,p1,p2,p3⟩:=hP;clear hP)
       | (go_at_call 150;refine(cN _).mono ?_;rintro e w5 ⟨rfl,hw⟩;subst hw))
     all_goals
      go_ret
      first|exact⟨RS.out,HB.out⟩|exact⟨rfl,HB.out⟩
    | true=>
     cases bh with
     | false=>
      have RS:Ending.returned (xI 1)=.returned (xI (if(true&&(true&&(!(k==4&&n)&&(true&&(false&&bn)))))=true then 0 else 1)):=by simp[e4]
      replace RS:=xh RS
      go_enter Tryz.func130,Tryz.ntmps130
      go_wp2_with (first
        | (go_at_call 131;refine(cP _).mono ?_;rintro e w1 ⟨rfl,hb⟩;have K:=xh ((zak w k x n t o r d i p q s m 63).below hb);have HB:Hid (Below w.heap.size w w1):=(xr.alloc xl _).trans (hb.mono (by simp));have HL:Hid (w.heap.size<w1.heap.size):=Nat.lt_of_lt_of_le (by simp) hb.size;clear hb;obtain⟨V,hV,hP,hb2,hs2⟩:=zbl w1 true b1 b2 b3;replace K:=xh (K.out.below hb2);replace HB:=xh (HB.out.trans (hb2.mono HB.out.size));clear hb2 hs2 HL;have⟨c0,c1,c2,c3,c4,c5,c6,c7,c8,c9,c10,c11⟩:=K.out;have⟨p0,p1,p2,p3⟩:=hP;clear hP)
        | (go_at_call 147;refine(cX _).mono ?_;rintro e w2 ⟨rfl,hw⟩;subst hw)
        | (go_at_call 148;refine(cL _).mono ?_;rintro e w3 ⟨rfl,hb⟩;replace K:=xh (K.out.below hb);have hP:Cells4 w3 _ _ _ _ _:=(show Cells4 _ _ _ _ _ _ from⟨p0,p1,p2,p3⟩).below hb;replace HB:=xh (HB.out.trans (hb.mono HB.out.size));clear hb;clear c0 c1 c2 c3 c4 c5 c6 c7 c8 c9 c10 c11 p0 p1 p2 p3;have⟨c0,c1,c2,c3,c4,c5,c6,c7,c8,c9,c10,c11⟩:=K.out;have⟨p0,p1,p2,p3⟩:=hP;clear hP)
        | (go_at_call 149;refine(cH _).mono ?_;rintro e w4 ⟨rfl,hb⟩;replace K:=xh (K.out.below hb);have hP:Cells4 w4 _ _ _ _ _:=(show Cells4 _ _ _ _ _ _ from⟨p0,p1,p2,p3⟩).below hb;replace HB:=xh (HB.out.trans (hb.mono HB.out.size));clear hb;clear c0 c1 c2 c3 c4 c5 c6 c7 c8 c9 c10 c11 p0 p1 p2 p3;have⟨c0,c1,c2,c3,c4,c5,c6,c7,c8,c9,c10,c11⟩:=K.out;have⟨p0,p1,p2,p3⟩:=hP;clear hP)
        | (go_at_call 150;refine(cN _).mono ?_;rintro e w5 ⟨rfl,hw⟩;subst hw))
      all_goals
       go_ret
       first|exact⟨RS.out,HB.out⟩|exact⟨rfl,HB.out⟩
     | true=>
      cases bn with
      | false=>
       have RS:Ending.returned (xI 1)=.returned (xI (if(true&&(true&&(!(k==4&&n)&&(true&&(true&&false)))))=true then 0 else 1)):=by simp[e4]
       replace RS:=xh RS
       go_enter Tryz.func130,Tryz.ntmps130
       go_wp2_with (first
         | (go_at_call 131;refine(cP _).mono ?_;rintro e w1 ⟨rfl,hb⟩;have K:=xh ((zak w k x n t o r d i p q s m 63).below hb);have HB:Hid (Below w.heap.size w w1):=(xr.alloc xl _).trans (hb.mono (by simp));have HL:Hid (w.heap.size<w1.heap.size):=Nat.lt_of_lt_of_le (by simp) hb.size;clear hb;obtain⟨V,hV,hP,hb2,hs2⟩:=zbl w1 true b1 b2 b3;replace K:=xh (K.out.below hb2);replace HB:=xh (HB.out.trans (hb2.mono HB.out.size));clear hb2 hs2 HL;have⟨c0,c1,c2,c3,c4,c5,c6,c7,c8,c9,c10,c11⟩:=K.out;have⟨p0,p1,p2,p3⟩:=hP;clear hP)
         | (go_at_call 147;refine(cX _).mono ?_;rintro e w2 ⟨rfl,hw⟩;subst hw)
         | (go_at_call 148;refine(cL _).mono ?_;rintro e w3 ⟨rfl,hb⟩;replace K:=xh (K.out.below hb);have hP:Cells4 w3 _ _ _ _ _:=(show Cells4 _ _ _ _ _ _ from⟨p0,p1,p2,p3⟩).below hb;replace HB:=xh (HB.out.trans (hb.mono HB.out.size));clear hb;clear c0 c1 c2 c3 c4 c5 c6 c7 c8 c9 c10 c11 p0 p1 p2 p3;have⟨c0,c1,c2,c3,c4,c5,c6,c7,c8,c9,c10,c11⟩:=K.out;have⟨p0,p1,p2,p3⟩:=hP;clear hP)
         | (go_at_call 149;refine(cH _).mono ?_;rintro e w4 ⟨rfl,hb⟩;replace K:=xh (K.out.below hb);have hP:Cells4 w4 _ _ _ _ _:=(show Cells4 _ _ _ _ _ _ from⟨p0,p1,p2,p3⟩).below hb;replace HB:=xh (HB.out.trans (hb.mono HB.out.size));clear hb;clear c0 c1 c2 c3 c4 c5 c6 c7 c8 c9 c10 c11 p0 p1 p2 p3;have⟨c0,c1,c2,c3,c4,c5,c6,c7,c8,c9,c10,c11⟩:=K.out;have⟨p0,p1,p2,p3⟩:=hP;clear hP)
         | (go_at_call 150;refine(cN _).mono ?_;rintro e w5 ⟨rfl,hw⟩;subst hw))
       all_goals
        go_ret
        first|exact⟨RS.out,HB.out⟩|exact⟨rfl,HB.out⟩
      | true=>
       have RS:Ending.returned (xI 0)=.returned (xI (if(true&&(true&&(!(k==4&&n)&&(true&&(true&&true)))))=true then 0 else 1)):=by simp[e4]
       replace RS:=xh RS
       go_enter Tryz.func130,Tryz.ntmps130
       go_wp2_with (first
         | (go_at_call 131;refine(cP _).mono ?_;rintro e w1 ⟨rfl,hb⟩;have K:=xh ((zak w k x n t o r d i p q s m 63).below hb);have HB:Hid (Below w.heap.size w w1):=(xr.alloc xl _).trans (hb.mono (by simp));have HL:Hid (w.heap.size<w1.heap.size):=Nat.lt_of_lt_of_le (by simp) hb.size;clear hb;obtain⟨V,hV,hP,hb2,hs2⟩:=zbl w1 true b1 b2 b3;replace K:=xh (K.out.below hb2);replace HB:=xh (HB.out.trans (hb2.mono HB.out.size));clear hb2 hs2 HL;have⟨c0,c1,c2,c3,c4,c5,c6,c7,c8,c9,c10,c11⟩:=K.out;have⟨p0,p1,p2,p3⟩:=hP;clear hP)
         | (go_at_call 147;refine(cX _).mono ?_;rintro e w2 ⟨rfl,hw⟩;subst hw)
         | (go_at_call 148;refine(cL _).mono ?_;rintro e w3 ⟨rfl,hb⟩;replace K:=xh (K.out.below hb);have hP:Cells4 w3 _ _ _ _ _:=(show Cells4 _ _ _ _ _ _ from⟨p0,p1,p2,p3⟩).below hb;replace HB:=xh (HB.out.trans (hb.mono HB.out.size));clear hb;clear c0 c1 c2 c3 c4 c5 c6 c7 c8 c9 c10 c11 p0 p1 p2 p3;have⟨c0,c1,c2,c3,c4,c5,c6,c7,c8,c9,c10,c11⟩:=K.out;have⟨p0,p1,p2,p3⟩:=hP;clear hP)
         | (go_at_call 149;refine(cH _).mono ?_;rintro e w4 ⟨rfl,hb⟩;replace K:=xh (K.out.below hb);have hP:Cells4 w4 _ _ _ _ _:=(show Cells4 _ _ _ _ _ _ from⟨p0,p1,p2,p3⟩).below hb;replace HB:=xh (HB.out.trans (hb.mono HB.out.size));clear hb;clear c0 c1 c2 c3 c4 c5 c6 c7 c8 c9 c10 c11 p0 p1 p2 p3;have⟨c0,c1,c2,c3,c4,c5,c6,c7,c8,c9,c10,c11⟩:=K.out;have⟨p0,p1,p2,p3⟩:=hP;clear hP)
         | (go_at_call 150;refine(cN _).mono ?_;rintro e w5 ⟨rfl,hw⟩;subst hw))
       all_goals
        go_ret
        first|exact⟨RS.out,HB.out⟩|exact⟨rfl,HB.out⟩
theorem zoQ (k x:Int)(n:Bool)(t o r d i p q s m:Int):(if(kn k&&(decide (zaC x)&&(!(k==4&&n)&&(decide (LvOk p q s (lvB k))&&(decide (HgOk n t o r d i (hgB k))&&decide (zdQ m (nuB k)))))))=true then(0:Int)else 1)=obc k x n t o r d i p q s m:=by
 unfold obc
 congr 1
 simp only[Bool.and_eq_true,Bool.not_eq_true',Bool.and_eq_false_iff,decide_eq_true_eq,ObOk,beq_eq_false_iff_ne,eq_iff_iff]
 cases n<;>by_cases h4:k=4<;>simp[h4]
theorem zaK (k x:Int)(n:Bool)(t o r d i p q s m:Int)(w:World):
  Calls Tryz.prog 130 #[.agg (xO k x n t o r d i p q s m)] w fun e w'=>e=.returned (xI (obc k x n t o r d i p q s m))∧Below w.heap.size w w':=by
 rw[←zoQ]
 exact zgE k x n t o r d i p q s m _ _ _ _ _ _ _ _ w (fun w=>za3 k w) (fun w=>zke x w) (fun w=>zk6 p q s _ w) (fun w=>zl5 n t o r d i _ w) (fun w=>zlt m _ w)
end
end Go.Proofs.YtjghebcnmoojmaaGreat
