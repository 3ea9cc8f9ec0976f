/- A region that draws its order, by what is known of each slot: A region that draws its order, by what is known of each slot, with a store in it: A typed walk ove -/
import Derived.Test.YtjghebcnmoojmaaGreatV00
import Derived.StillTail
set_option maxRecDepth 100000
set_option maxHeartbeats 32000000
namespace Go.Proofs.YtjghebcnmoojmaaGreat
open Go.RowKit MX
section
def Ty:=Value→World→Prop
section
variable (P:Program) (ops:Array Oper) (C:World→Prop) (X:World→World→Prop) (a0:Act)
def Fits (E:Tmp→Option Ty)(a:Act)(w:World)(t:Tmp):Prop:=
 match E t with
 | some V=>V (a.eval (.tmp t)) w
 | none=>a.eval (.tmp t)=a0.eval (.tmp t)
def Tame (V:Ty)(w:World):Result Next→Prop
 | .ok (.value v) w'=>C w'∧X w w'∧V v w'
 | .ok .skip w'=>C w'∧X w w'∧V undef w'
 | .ok (.enter f args) w'=>w'=w∧Calls P f args w (fun e w''=>∃v,e=.returned v∧C w''∧X w w''∧V v w'')
 | _=>False
def zeR (E:Tmp→Option Ty)(o:Oper)(V:Ty):Prop:=
 ∀(a:Act) (w:World),C w→(∀t∈o.looksAt ops,Fits a0 E a w t)→
  if Region.wanted o (yielded ops a.tmps)then Tame P C X V w ((execOp a.eval o).run P w)else V undef w
def Keeps (V:Ty):Prop:=∀v w w',V v w→X w w'→V v w'
def push (o:Oper)(V:Ty)(E:Tmp→Option Ty):Tmp→Option Ty:=fun t=>if o.dst=some t then some V else E t
def zaX:List Oper→(Tmp→Option Ty)→((Tmp→Option Ty)→Prop)→Prop
 | [],E,K=>K E
 | o::rest,E,K=>∃V,Keeps X V∧zeR P ops C X a0 E o V∧zaX rest (push o V E) K
def envs:List Oper→List Ty→(Tmp→Option Ty)→(Tmp→Option Ty)
 | o::l,V::Vs,E=>envs l Vs (push o V E)
 | _,_,E=>E
theorem zbJ {t:Tmp}:∀(l:List Oper) (Vs:List Ty) (E:Tmp→Option Ty),(∀o∈l,o.dst≠some t)→envs l Vs E t=E t
 | [],_,_,_=>by simp[envs]
 | o::l,[],_,_=>by simp[envs]
 | o::l,V::Vs,E,h=>by
  rw[envs,zbJ l Vs _ (fun o' h'=>h o' (List.mem_cons_of_mem _ h')),push,if_neg (h o List.mem_cons_self)]
theorem zbU {t:Tmp}{o:Oper}{V:Ty}(ht:o.dst=some t):∀(l:List Oper) (Vs:List Ty) (E:Tmp→Option Ty) (j:Nat),
  l[j]? =some o→Vs[j]? =some V→(∀k o',j<k→l[k]? =some o'→o'.dst≠some t)→envs l Vs E t=some V
 | [],_,_,j,h,_,_=>by simp at h
 | _::_,[],_,j,_,h,_=>by simp at h
 | o1::l,V1::Vs,E,0,h1,h2,h3=>by
  simp at h1 h2
  subst h1 h2
  rw[envs,zbJ l Vs _ (fun o' h'=>by
   obtain⟨k,hk⟩:=List.mem_iff_getElem?.1 h'
   exact h3 (k+1) o' (by omega) (by simpa using hk)),push,if_pos ht]
 | o1::l,V1::Vs,E,j+1,h1,h2,h3=>by
  rw[envs]
  exact zbU ht l Vs _ j (by simpa using h1) (by simpa using h2) (fun k o' hk ho=>h3 (k+1) o' (by omega) (by simpa using ho))
theorem zdE {K:(Tmp→Option Ty)→Prop}:∀(l:List Oper) (E:Tmp→Option Ty),zaX P ops C X a0 l E K→
  ∃Vs:List Ty,Vs.length=l.length∧(∀i o V,l[i]? =some o→Vs[i]? =some V→Keeps X V∧zeR P ops C X a0 (envs (l.take i) (Vs.take i) E) o V)∧K (envs l Vs E)
 | [],E,h=>⟨[],rfl,fun i o V h1=>by simp at h1,by simpa [envs,zaX]using h⟩
 | o::l,E,h=>by
  obtain⟨V,hk,hs,hw⟩:=h
  obtain⟨Vs,hl,ha,hK⟩:=zdE l _ hw
  refine⟨V::Vs,by simp[hl],fun i o' V' h1 h2=>?_,by rw[envs];exact hK⟩
  cases i with
  | zero=>
   simp at h1 h2
   subst h1 h2
   exact⟨hk,by simpa [envs]using hs⟩
  | succ i=>
   have:=ha i o' V' (by simpa using h1) (by simpa using h2)
   rw[List.take_succ_cons,List.take_succ_cons,envs]
   exact this
def okB (md:Region.Mode)(l:List Oper)(n:Nat):Bool:=
 (List.range l.length).all fun i=>match l[i]? with
  | none=>true
  | some o=>
   (match o.dst with|some d=>decide (d<n)|none=>true)&&(o.after.all fun e=> !Region.binds md e||decide (e.on<i))&&
   (List.range l.length).all fun j=>match l[j]? with
    | none=>true
    | some o'=>match o'.dst with
     | none=>true
     | some t=>(decide (i=j)|| !(o.dst==some t))&&(!(o.looksAt l.toArray).contains t||(decide (j<i)&&o.after.any fun e=>Region.binds md e&&e.on==j))
theorem zbn {md:Region.Mode}{l:List Oper}{n:Nat}(h:okB md l n=true):
  (∀(i:Nat) (o:Oper) (d:Tmp),l[i]? =some o→o.dst=some d→d<n)∧
  (∀(i j:Nat) (o o':Oper) (t:Tmp),l[i]? =some o→l[j]? =some o'→o.dst=some t→o'.dst=some t→i=j)∧
  (∀(i j:Nat) (o o':Oper) (t:Tmp),l[i]? =some o→l[j]? =some o'→o'.dst=some t→t∈o.looksAt l.toArray→j<i∧∃e∈o.after,Region.binds md e=true∧e.on=j)∧
  (∀(i:Nat) (o:Oper),l[i]? =some o→∀e∈o.after,Region.binds md e=true→e.on<i):=by
 unfold okB at h
 rw[List.all_eq_true]at h
 have lt:∀{i:Nat} {o:Oper},l[i]? =some o→i<l.length:=fun h=>(List.getElem?_eq_some_iff.1 h).1
 refine⟨fun i o d hi hd=>?_,fun i j o o' t hi hj h1 h2=>?_,fun i j o o' t hi hj h2 h3=>?_,fun i o hi e he hb=>?_⟩
 ·have:=h i (List.mem_range.2 (lt hi))
  simp only[hi,hd,Bool.and_eq_true,decide_eq_true_eq]at this
  exact this.1.1
 ·have:=h i (List.mem_range.2 (lt hi))
  simp only[hi,Bool.and_eq_true]at this
  have:=(List.all_eq_true.1 this.2) j (List.mem_range.2 (lt hj))
  simp only[hj,h2,h1,Bool.and_eq_true,Bool.or_eq_true,decide_eq_true_eq]at this
  rcases this.1 with h|h
  ·exact h
  ·simp at h
 ·have:=h i (List.mem_range.2 (lt hi))
  simp only[hi,Bool.and_eq_true]at this
  have:=(List.all_eq_true.1 this.2) j (List.mem_range.2 (lt hj))
  simp only[hj,h2,Bool.and_eq_true,Bool.or_eq_true,decide_eq_true_eq]at this
  rcases this.2 with h|⟨h,hh⟩
  ·simp[h3]at h
  ·refine⟨h,?_⟩
   obtain⟨e,he,hb⟩:=Array.any_eq_true'.1 hh
   simp only[Bool.and_eq_true,beq_iff_eq]at hb
   exact⟨e,he,hb.1,hb.2⟩
 ·have:=h i (List.mem_range.2 (lt hi))
  simp only[hi,Bool.and_eq_true]at this
  have:=(Array.all_eq_true'.1 this.1.2) e he
  simpa [hb]using this
def Inv (l:List Oper)(Vs:List Ty)(n:Nat)(listed:Array Bool)(a:Act)(w:World):Prop:=
 C w∧a.tmps.size=n∧a.defers=a0.defers∧
 (∀(i:Nat) (o:Oper) (V:Ty) (t:Tmp),l[i]? =some o→Vs[i]? =some V→o.dst=some t→listed.getD i true=true→V (a.eval (.tmp t)) w)∧
 (∀t,(∀(i:Nat) (o:Oper),l[i]? =some o→o.dst=some t→listed.getD i true=false)→a.eval (.tmp t)=a0.eval (.tmp t))
theorem zdw {a:Act}{d:Tmp}{v:Value}(h:d<a.tmps.size):(a.put (some d) v).eval (.tmp d)=v:=by
 simp[Act.eval,Act.put,h]
variable {P ops C X a0}
theorem zfz {md:Region.Mode}{l:List Oper}{Vs:List Ty}{n:Nat}(hok:okB md l n=true)(hk:∀(i:Nat) V,Vs[i]? =some V→Keeps X V){listed:Array Bool}(hls:listed.size=l.length){a:Act}{w w':World}(h:Inv C a0 l Vs n listed a w)
  {i:Nat} {o:Oper} {V:Ty} {v:Value} (ho:l[i]? =some o) (hV:Vs[i]? =some V) (hC:C w') (hX:X w w') (hv:V v w'):Inv C a0 l Vs n (listed.setIfInBounds i true) (a.put o.dst v) w':=by
 obtain⟨h1,h2,h3,h4,h5⟩:=h
 obtain⟨k1,k2,_,_⟩:=zbn hok
 have hil:i<l.length:=(List.getElem?_eq_some_iff.1 ho).1
 refine⟨hC,by cases o.dst<;>simp[Act.put,h2],by cases o.dst<;>simp[Act.put,h3],fun j o' V' t hj hV' ht hl=>?_,fun t ht=>?_⟩
 ·by_cases hij:i=j
  ·subst hij
   rw[ho]at hj;cases hj
   rw[hV]at hV';cases hV'
   rw[ht,zdw (by rw[h2];exact k1 i o t ho ht)]
   exact hv
  ·rw[Act.eval_put (fun d hd hx=>hij (k2 i j o o' t ho hj (by cases hx;exact hd) ht))]
   rw[getD_set_ne true hij]at hl
   exact hk j V' hV' _ _ _ (h4 j o' V' t hj hV' ht hl) hX
 ·rw[Act.eval_put (fun d hd hx=>by
   cases hx
   have:=ht i o ho hd
   simp[hls,hil]at this)]
  refine h5 t fun j o' hj hd=>?_
  by_cases hij:i=j
  ·subst hij
   have:=ht i o' hj hd
   simp[hls,hil]at this
  ·have:=ht j o' hj hd
   rwa [getD_set_ne true hij]at this
theorem zdn:∀(l:List Bool) (i:Nat),l[i]? =some false→(l.set i true).count false+1=l.count false
 | [],i,h=>by simp at h
 | b::l,0,h=>by simp at h;subst h;simp
 | b::l,i+1,h=>by
  have:=zdn l i (by simpa using h)
  rw[List.set_cons_succ,List.count_cons,List.count_cons]
  omega
theorem zci {listed:Array Bool}{i:Nat}(h:listed.getD i true=false):listed.toList[i]? =some false:=by
 rcases Nat.lt_or_ge i listed.size with h'|h'
 ·simp[h']at h
  simp[h',h]
 ·simp[Array.getElem?_eq_none h']at h
theorem znB (listed:Array Bool)(h:0<listed.toList.count false):∃i,(i<listed.size∧listed.getD i true=false)∧∀j,j<i→listed.getD j true=true:=by
  have hm:false∈listed.toList:=List.count_pos_iff.1 h
  obtain⟨k,hk⟩:=List.mem_iff_getElem?.1 hm
  have hkl:k<listed.size:=by have:=(List.getElem?_eq_some_iff.1 hk).1;simpa using this
  have hk':listed.getD k true=false:=by
    have:listed[k]? =some false:=by simpa using hk
    simp[this]
  have key:∀n,(∃i,i≤n∧listed.getD i true=false)→∃i,listed.getD i true=false∧∀j,j<i→listed.getD j true=true:=by
    intro n
    induction n with
    | zero => rintro ⟨i, hi, h⟩; obtain rfl : i = 0 := by omega
              exact⟨0,h,fun j hj=>by omega⟩
    | succ n ih=>
      rintro⟨i,hi,h⟩
      by_cases hex:∃i,i≤n∧listed.getD i true=false
      · exact ih hex
      · refine⟨i,h,fun j hj=>?_⟩
        cases hb:listed.getD j true with
        | true=>rfl
        | false=>exact absurd ⟨j,by omega,hb⟩ hex
  obtain⟨i,hi,hmin⟩:=key k ⟨k,Nat.le_refl _,hk'⟩
  refine⟨i,⟨?_,hi⟩,hmin⟩
  rcases Nat.lt_or_ge i listed.size with h'|h'
  · exact h'
  · simp[Array.getElem?_eq_none h']at hi
theorem zda {md:Region.Mode}{l:List Oper}{Vs:List Ty}{n:Nat}{Q:Exit→Act→World→Prop}(hok:okB md l n=true)(hlen:Vs.length=l.length)(hrefl:∀w,X w w)
  (hall:∀(i:Nat) (o:Oper) (V:Ty),l[i]? =some o→Vs[i]? =some V→Keeps X V∧zeR P l.toArray C X a0 (envs (l.take i) (Vs.take i) fun _=>none) o V)
  (hQ:∀(listed:Array Bool) (a:Act) (w:World),listed.toList.count false=0→listed.size=l.length→Inv C a0 l Vs n listed a w→Q .normal a w):
  ∀(fuel:Nat) (listed:Array Bool) (a:Act) (w:World),listed.size=l.length→listed.toList.count false=fuel→Inv C a0 l Vs n listed a w→wpAny P md l.toArray Q fuel listed a w:=by
 have hk:∀(i:Nat) V,Vs[i]? =some V→Keeps X V:=fun i V hV=>by
  have hi:i<l.length:=by have:=(List.getElem?_eq_some_iff.1 hV).1;omega
  exact(hall i l[i] V (List.getElem?_eq_getElem hi) hV).1
 have hnone:∀(listed:Array Bool),listed.toList.count false=0→Region.ready md l.toArray listed=[]:=fun listed h0=>by
  rw[List.eq_nil_iff_forall_not_mem]
  intro j hj
  have:=zci (mem_ready.1 hj).1
  have hm:false∈listed.toList:=List.mem_of_getElem? this
  have:=List.count_pos_iff.2 hm
  omega
 intro fuel
 induction fuel with
 | zero=>intro listed a w hs h0 hI;exact⟨hnone listed h0,hQ listed a w h0 hs hI⟩
 | succ fuel ih=>
  intro listed a w hs hf hI
  have hmem:∀i∈Region.ready md l.toArray listed,wpOp P l.toArray Q i (wpAny P md l.toArray Q fuel (listed.setIfInBounds i true)) a w:=by
   intro i hi
   obtain⟨hun,o,ho,hafter⟩:=mem_ready.1 hi
   have ho':l[i]? =some o:=by simpa using ho
   have hil:i<l.length:=(List.getElem?_eq_some_iff.1 ho').1
   obtain⟨V,hV⟩:∃V,Vs[i]? =some V:=⟨Vs[i]'(by omega),List.getElem?_eq_getElem (by omega)⟩
   obtain⟨_,hstep⟩:=hall i o V ho' hV
   obtain⟨k1,k2,k3,_⟩:=zbn hok
   have hcnt:(listed.setIfInBounds i true).toList.count false=fuel:=by
    have:=zdn listed.toList i (zci hun)
    rw[Array.toList_setIfInBounds]
    omega
   have hnext:∀(v:Value) (w':World),C w'→X w w'→V v w'→wpAny P md l.toArray Q fuel (listed.setIfInBounds i true) (a.put o.dst v) w':=fun v w' h1 h2 h3=>
    ih _ _ _ (by simpa using hs) hcnt (zfz hok hk hs hI ho' hV h1 h2 h3)
   have hfits:∀t∈o.looksAt l.toArray,Fits a0 (envs (l.take i) (Vs.take i) fun _=>none) a w t:=by
    intro t ht
    unfold Fits
    by_cases hex:∃(j:Nat) (o':Oper),l[j]? =some o'∧o'.dst=some t
    ·obtain⟨j,o',hj,hd⟩:=hex
     obtain⟨hji,e,he,hb,hon⟩:=k3 i j o o' t ho' hj hd ht
     have hjl:j<Vs.length:=by omega
     have hVj:Vs[j]? =some Vs[j]:=List.getElem?_eq_getElem hjl
     have henv:=zbU (V:=Vs[j]) hd (l.take i) (Vs.take i) (fun _=>none) j (by rw[List.getElem?_take,if_pos hji];exact hj) (by rw[List.getElem?_take,if_pos hji];exact hVj) (fun k o'' hjk hk' hd'=>by
      have hk2:l[k]? =some o'':=by
       rw[List.getElem?_take]at hk'
       split at hk'
       ·exact hk'
       ·cases hk'
      have:=k2 j k o' o'' t hj hk2 hd hd'
      omega)
     rw[henv]
     have hl:=hafter e he hb
     rw[hon]at hl
     have hl':listed.getD j true=true:=by
      have hjs:j<listed.size:=by rw[hs];omega
      simp[hjs]at hl ⊢
      exact hl
     exact hI.2.2.2.1 j o' Vs[j] t hj hVj hd hl'
    ·have henv:=zbJ (t:=t) (l.take i) (Vs.take i) (fun _=>none) (fun o' ho' hd=>by
      obtain⟨k,hk'⟩:=List.mem_iff_getElem?.1 ho'
      rw[List.getElem?_take]at hk'
      split at hk'
      ·exact hex ⟨k,o',hk',hd⟩
      ·cases hk')
     rw[henv]
     exact hI.2.2.2.2 t fun j o' hj hd=>absurd ⟨j,o',hj,hd⟩ hex
   have hs2:=hstep a w hI.1 hfits
   unfold wpOp
   simp only[ho]
   by_cases hw:Region.wanted o (yielded l.toArray a.tmps)=true
   ·rw[if_pos hw]at hs2
    simp only[hw,if_true]
    left
    unfold Oper.wp
    generalize (execOp a.eval o).run P w=r at*
    cases r with
    | ok nx w'=>
     cases nx<;>simp only[Tame]at hs2<;>simp only[Oper.upon]
     case value v=>exact hnext v w' hs2.1 hs2.2.1 hs2.2.2
     case skip=>exact hnext undef w' hs2.1 hs2.2.1 hs2.2.2
     case enter f args=>
      obtain⟨rfl,hc⟩:=hs2
      exact hc.mono fun e w'' ⟨v,he,h1,h2,h3⟩=>by subst he;exact hnext v w'' h1 h2 h3
    | halt x w'=>simp only[Tame]at hs2
   ·rw[if_neg hw]at hs2
    simp only[hw]
    exact hnext undef w hI.1 (hrefl w) hs2
  refine⟨fun hr=>?_,hmem⟩
  obtain⟨i,hi,hmin⟩:=znB listed (by omega)
  have hil:i<l.length:=by rw[←hs];exact hi.1
  refine absurd (mem_ready.2 ⟨hi.2,l[i],by simp[hil],fun e he hb=>?_⟩:i∈Region.ready md l.toArray listed) (by rw[hr];simp)
  have hlt:=(zbn hok).2.2.2 i l[i] (List.getElem?_eq_getElem hil) e he hb
  have hes:e.on<listed.size:=by omega
  have:=hmin e.on hlt
  simp[hes]at this ⊢
  exact this
theorem zaf {id n:Nat}{l:List Oper}{Q:Exit→Act→World→Prop}{w:World}(hm:P.follows .mixedOrders=true)(hok:okB .any l n=true)(hn:a0.tmps.size=n)
  (hrefl:∀w,X w w) (hC:C {w with drawn:=w.drawn+1})
  (h:zaX P l.toArray C X a0 l (fun _=>none) fun E=>∀(a:Act) (w':World),C w'→a.tmps.size=n→a.defers=a0.defers→(∀t,Fits a0 E a w' t)→Q .normal a w'):
  (Code.region id l.toArray true).wp P Q a0 w:=by
 obtain⟨Vs,hlen,hall,hK⟩:=zdE P l.toArray C X a0 l _ h
 refine wp_region_any hm ?_
 have hsz:(Array.replicate l.toArray.size false).size=l.length:=by simp
 refine zda (Vs:=Vs) (n:=n) hok hlen hrefl hall ?_ _ _ _ _ hsz (by simp) ⟨hC,hn,rfl,fun i o V t ho hV ht hl=>?_,fun t _=>rfl⟩
 ·intro listed a w' h0 hs hI
  have hall1:∀j,listed.getD j true=true:=fun j=>by
   cases hb:listed.getD j true with
   | true=>rfl
   | false=>
    have hm:false∈listed.toList:=List.mem_of_getElem? (zci hb)
    have:=List.count_pos_iff.2 hm
    omega
  refine hK a w' hI.1 hI.2.1 hI.2.2.1 fun t=>?_
  unfold Fits
  by_cases hex:∃(j:Nat) (o':Oper),l[j]? =some o'∧o'.dst=some t
  ·obtain⟨j,o',hj,hd⟩:=hex
   have hjl:j<Vs.length:=by have:=(List.getElem?_eq_some_iff.1 hj).1;omega
   have hVj:Vs[j]? =some Vs[j]:=List.getElem?_eq_getElem hjl
   rw[zbU (V:=Vs[j]) hd l Vs (fun _=>none) j hj hVj (fun k o'' hjk hk' hd'=>by
    have:=(zbn hok).2.1 j k o' o'' t hj hk' hd hd'
    omega)]
   exact hI.2.2.2.1 j o' Vs[j] t hj hVj hd (hall1 j)
  ·rw[zbJ (t:=t) l Vs (fun _=>none) (fun o' ho' hd=>by
    obtain⟨k,hk'⟩:=List.mem_iff_getElem?.1 ho'
    exact hex ⟨k,o',hk',hd⟩)]
   exact hI.2.2.2.2 t fun j o' hj hd=>absurd ⟨j,o',hj,hd⟩ hex
 ·have hi:i<l.length:=(List.getElem?_eq_some_iff.1 ho).1
  simp[hi]at hl
def Is (c:Value):Ty:=fun v _=>v=c
def Fit (E:Tmp→Option Ty)(a0:Act)(ρ:Operand→Value)(w:World)(t:Tmp):Prop:=
 match E t with
 | some V=>V (ρ (.tmp t)) w
 | none=>ρ (.tmp t)=a0.eval (.tmp t)
def ziL (E:Tmp→Option Ty)(a0:Act)(d:Tmp)(c:Value):Prop:=∀(a:Act) (w:World),Fits a0 E a w d→a.eval (.tmp d)=c
theorem zaI {E:Tmp→Option Ty}{d:Tmp}{c:Value}(h:E d=some (Is c)):ziL E a0 d c:=fun a w hf=>by
 unfold Fits at hf;rw[h]at hf;exact hf
def Wanted (ops:Array Oper)(a0:Act)(E:Tmp→Option Ty)(o:Oper):Prop:=
 o.guard=none∨∃g d want,o.guard=some (g,want)∧(ops[g]?).bind (·.dst)=some d∧ziL E a0 d (.bool want)
theorem Wanted.on {E:Tmp→Option Ty}{o:Oper}(h:Wanted ops a0 E o){a:Act}{w:World}(hf:∀t∈o.looksAt ops,Fits a0 E a w t):Region.wanted o (yielded ops a.tmps)=true:=by
 rcases h with h|⟨g,d,want,h1,h2,h3⟩
 ·simp[Region.wanted,h]
 ·have hv:=h3 a w (hf d (by simp[Oper.looksAt,h1,h2]))
  have hy:yielded ops a.tmps g=some want:=by
   unfold yielded
   rw[h2]
   simp only[Act.eval]at hv
   rcases Nat.lt_or_ge d a.tmps.size with h|h
   ·simp[h]at hv
    simp[h,hv]
   ·simp[Array.getElem?_eq_none h,undef]at hv
  simp[Region.wanted,h1,hy]
theorem w_is {o:Oper}{rest:List Oper}{E:Tmp→Option Ty}{K:(Tmp→Option Ty)→Prop}(hrefl:∀w,X w w)(c:Value)(G:Wanted ops a0 E o)
  (h:∀(ρ:Operand→Value) (w:World),C w→(∀c,ρ (.const c)=c)→(∀f,ρ (.func f)=.func (.func f) #[] #[])→(∀t∈o.looksAt ops,Fit E a0 ρ w t)→(execOp ρ o).run P w=.ok (.value c) w)
  (hw:zaX P ops C X a0 rest (push o (Is c) E) K):zaX P ops C X a0 (o::rest) E K:=
 ⟨Is c,fun _ _ _ h _=>h,fun a w hC hf=>by
  rw[if_pos (G.on hf),h a.eval w hC (fun _=>rfl) (fun _=>rfl) hf]
  exact⟨hC,hrefl w,rfl⟩,hw⟩
theorem zp6 {o:Oper}{rest:List Oper}{E:Tmp→Option Ty}{K:(Tmp→Option Ty)→Prop}(hrefl:∀w,X w w)(x:Operand)(hop:o.op=.move x∨o.op=.assign x)(c:Value)(G:Wanted ops a0 E o)
  (h:∀(ρ:Operand→Value) (w:World),(∀c,ρ (.const c)=c)→(∀t∈o.looksAt ops,Fit E a0 ρ w t)→ρ x=c)
  (hw:zaX P ops C X a0 rest (push o (Is c) E) K):zaX P ops C X a0 (o::rest) E K:=
 w_is hrefl c G (fun ρ w _ hc _ hf=>by
  have hx:=h ρ w hc hf
  rcases hop with hop|hop<;>(simp only[execOp,hop,hx];rfl)) hw
theorem za8 {o:Oper}{rest:List Oper}{E:Tmp→Option Ty}{K:(Tmp→Option Ty)→Prop}(V:Ty)(hV:Keeps X V)(f:FuncId)(G:Wanted ops a0 E o)
  (h:∀(ρ:Operand→Value) (w:World),C w→(∀c,ρ (.const c)=c)→(∀f,ρ (.func f)=.func (.func f) #[] #[])→(∀t∈o.looksAt ops,Fit E a0 ρ w t)→
   ∃args,(execOp ρ o).run P w=.ok (.enter f args) w∧Calls P f args w (fun e w'=>∃v,e=.returned v∧C w'∧X w w'∧V v w'))
  (hw:zaX P ops C X a0 rest (push o V E) K):zaX P ops C X a0 (o::rest) E K:=
 ⟨V,hV,fun a w hC hf=>by
  obtain⟨args,h1,h2⟩:=h a.eval w hC (fun _=>rfl) (fun _=>rfl) hf
  rw[if_pos (G.on hf),h1]
  exact⟨rfl,h2⟩,hw⟩
theorem w_make {o:Oper}{rest:List Oper}{E:Tmp→Option Ty}{K:(Tmp→Option Ty)→Prop}(V:Ty)(hV:Keeps X V)(G:Wanted ops a0 E o)
  (h:∀(ρ:Operand→Value) (w:World),C w→(∀c,ρ (.const c)=c)→(∀f,ρ (.func f)=.func (.func f) #[] #[])→(∀t∈o.looksAt ops,Fit E a0 ρ w t)→
   ∃v w',(execOp ρ o).run P w=.ok (.value v) w'∧C w'∧X w w'∧V v w')
  (hw:zaX P ops C X a0 rest (push o V E) K):zaX P ops C X a0 (o::rest) E K:=
 ⟨V,hV,fun a w hC hf=>by
  obtain⟨v,w',h1,h2⟩:=h a.eval w hC (fun _=>rfl) (fun _=>rfl) hf
  rw[if_pos (G.on hf),h1]
  exact h2,hw⟩
theorem znY {o:Oper}{rest:List Oper}{E:Tmp→Option Ty}{K:(Tmp→Option Ty)→Prop}(hrefl:∀w,X w w)(V:Ty)(hV:Keeps X V)(x:Tmp)(hop:o.op=.move (.tmp x)∨o.op=.assign (.tmp x))(G:Wanted ops a0 E o)
  (hx:E x=some V) (hm:x∈o.looksAt ops) (hw:zaX P ops C X a0 rest (push o V E) K):zaX P ops C X a0 (o::rest) E K:=
 w_make V hV G (fun ρ w hC _ _ hf=>by
  have h:=hf x hm
  unfold Fit at h
  rw[hx]at h
  exact⟨ρ (.tmp x),w,by rcases hop with hop|hop<;>(simp only[execOp,hop];rfl),hC,hrefl w,h⟩) hw
theorem zoW {o:Oper}{rest:List Oper}{E:Tmp→Option Ty}{K:(Tmp→Option Ty)→Prop}{g:Nat}{d:Tmp}{want:Bool}(h1:o.guard=some (g,want))(h2:(ops[g]?).bind (·.dst)=some d)(h3:ziL E a0 d (.bool (!want)))
  (hw:zaX P ops C X a0 rest (push o (Is undef) E) K):zaX P ops C X a0 (o::rest) E K:=
 ⟨Is undef,fun _ _ _ h _=>h,fun a w hC hf=>by
  have hv:=h3 a w (hf d (by simp[Oper.looksAt,h1,h2]))
  have hy:yielded ops a.tmps g=some (!want):=by
   unfold yielded
   rw[h2]
   simp only[Act.eval]at hv
   rcases Nat.lt_or_ge d a.tmps.size with h|h
   ·simp[h]at hv
    simp[h,hv]
   ·simp[Array.getElem?_eq_none h,undef]at hv
  rw[if_neg (by simp[Region.wanted,h1,hy])]
  rfl,hw⟩
end
open RowKit in
theorem zcH {P:Program}{f:FuncId}{args:Array Value}{W w:World}{v:Value}(hC:Below W.heap.size W w)(h:Calls P f args w fun e w'=>e=.returned v∧w=w'):
  Calls P f args w fun e w'=>∃u,e=.returned u∧Below W.heap.size W w'∧Below w.heap.size w w'∧Is v u w':=
 h.mono fun _ _ ⟨he,hb⟩=>⟨_,he,hb▸hC,hb▸Below.refl _ _,rfl⟩
open RowKit in
theorem za9 {P:Program}{f:FuncId}{args:Array Value}{W w:World}{v:Value}(hC:Below W.heap.size W w)(h:Calls P f args w fun e w'=>e=.returned v∧Below w.heap.size w w'):
  Calls P f args w fun e w'=>∃u,e=.returned u∧Below W.heap.size W w'∧Below w.heap.size w w'∧Is v u w':=
 h.mono fun _ _ ⟨he,hb⟩=>⟨_,he,hC.trans (hb.mono hC.size),hb,rfl⟩
open RowKit in
theorem zpI {P:Program}{f:FuncId}{args:Array Value}{W w:World}{V:Ty}(hC:Below W.heap.size W w)(h:Calls P f args w fun e w'=>∃r,e=.returned r∧V r w'∧Below w.heap.size w w'):
  Calls P f args w fun e w'=>∃u,e=.returned u∧Below W.heap.size W w'∧Below w.heap.size w w'∧V u w':=
 h.mono fun _ _ ⟨r,he,hv,hb⟩=>⟨r,he,hC.trans (hb.mono hC.size),hb,hv⟩
theorem zaL {a:Act}{n:Nat}(h:a.tmps.size=n):a={a with tmps:=((List.range n).map fun i=>a.eval (.tmp i)).toArray}:=by
 obtain⟨tmps,defers⟩:=a
 simp only[Act.mk.injEq,and_true]at*
 apply Array.ext
 ·simpa using h
 ·intro i h1 h2
  simp[Act.eval,h1]
end
end Go.Proofs.YtjghebcnmoojmaaGreat
namespace Go.Proofs.YtjghebcnmoojmaaGreat.T3
open Go.RowKit MX

section
variable (P:Program) (ops:Array Oper) (C:World→Prop) (X:Nat→World→World→Prop) (a0:Act)

def zfG (o:Oper):Option Tmp:=
 match o.dst with
 | some d=>some d
 | none=>match o.op with
  | .store _ (.tmp p) _=>some p
  | _=>none
def zd5 (V:Ty)(o:Oper)(a:Act)(v:Value)(w:World):Prop:=
 match o.dst with
 | some _=>V v w
 | none=>match zfG o with
  | some p=>V (a.eval (.tmp p)) w
  | none=>True
def Tame (k:Nat)(V:Ty)(o:Oper)(a:Act)(w:World):Result Next→Prop
 | .ok (.value v) w'=>C w'∧X k w w'∧zd5 V o a v w'
 | .ok .skip w'=>C w'∧X k w w'∧zd5 V o a undef w'
 | .ok (.enter f args) w'=>w'=w∧Calls P f args w (fun e w''=>∃v,e=.returned v∧C w''∧X k w w''∧zd5 V o a v w'')
 | _=>False
def zeR (k:Nat)(E:Tmp→Option Ty)(o:Oper)(V:Ty):Prop:=
 ∀(a:Act) (w:World),C w→(∀t∈o.looksAt ops,Fits a0 E a w t)→
  if Region.wanted o (yielded ops a.tmps)then Tame P C X k V o a w ((execOp a.eval o).run P w)else zd5 V o a undef w
def Keeps (k:Nat)(V:Ty):Prop:=∀j,j≠k→∀v w w',V v w→X j w w'→V v w'
def zeL (o:Oper)(V:Ty)(F:List (Tmp×Ty)):List (Tmp×Ty):=
 match o.dst with
 | some _=>F
 | none=>match zfG o with
  | some p=>(p,V)::F
  | none=>F
def zaX:Nat→List Oper→(Tmp→Option Ty)→List (Tmp×Ty)→((Tmp→Option Ty)→List (Tmp×Ty)→Prop)→Prop
 | _,[],E,F,K=>K E F
 | k,o::rest,E,F,K=>∃V,Keeps X k V∧zeR P ops C X a0 k E o V∧zaX (k+1) rest (push o V E) (zeL o V F) K
def zfQ:List Oper→List Ty→List (Tmp×Ty)→List (Tmp×Ty)
 | o::l,V::Vs,F=>zfQ l Vs (zeL o V F)
 | _,_,F=>F
theorem zfW:∀(l:List Oper) (Vs:List Ty) (F:List (Tmp×Ty)) (x:Tmp×Ty),x∈zfQ l Vs F→x∈F∨∃(i:Nat) (o:Oper),l[i]? =some o∧Vs[i]? =some x.2∧zfG o=some x.1
 | [],_,_,x,h=>.inl (by simpa [zfQ]using h)
 | _::_,[],_,x,h=>.inl (by simpa [zfQ]using h)
 | o::l,V::Vs,F,x,h=>by
  rw[zfQ]at h
  rcases zfW l Vs _ x h with h|⟨i,o',h1,h2,h3⟩
  ·unfold zeL at h
   split at h
   ·exact .inl h
   ·split at h
    ·rename_i p hp
     rcases List.mem_cons.1 h with rfl|h
     ·exact .inr ⟨0,o,by simp,by simp,hp⟩
     ·exact .inl h
    ·exact .inl h
  ·exact .inr ⟨i+1,o',by simpa using h1,by simpa using h2,h3⟩
theorem zdE {K:(Tmp→Option Ty)→List (Tmp×Ty)→Prop}:∀(k:Nat) (l:List Oper) (E:Tmp→Option Ty) (F:List (Tmp×Ty)),zaX P ops C X a0 k l E F K→
  ∃Vs:List Ty,Vs.length=l.length∧(∀i o V,l[i]? =some o→Vs[i]? =some V→Keeps X (k+i) V∧zeR P ops C X a0 (k+i) (envs (l.take i) (Vs.take i) E) o V)∧K (envs l Vs E) (zfQ l Vs F)
 | k,[],E,F,h=>⟨[],rfl,fun i o V h1=>by simp at h1,by simpa [envs,zfQ,zaX]using h⟩
 | k,o::l,E,F,h=>by
  obtain⟨V,hk,hs,hw⟩:=h
  obtain⟨Vs,hl,ha,hK⟩:=zdE (k+1) l _ _ hw
  refine⟨V::Vs,by simp[hl],fun i o' V' h1 h2=>?_,by rw[envs,zfQ];exact hK⟩
  cases i with
  | zero=>
   simp at h1 h2
   subst h1 h2
   exact⟨hk,by simpa [envs]using hs⟩
  | succ i=>
   have:=ha i o' V' (by simpa using h1) (by simpa using h2)
   rw[List.take_succ_cons,List.take_succ_cons,envs]
   rw[show k+(i+1)=k+1+i by omega]
   exact this
def keyB (l:List Oper):Bool:=l.all fun o=>match o.dst with
 | some _=>true
 | none=>match zfG o with
  | some p=>(o.looksAt l.toArray).contains p
  | none=>true
theorem zkJ {l:List Oper}(h:keyB l=true){j:Nat}{o:Oper}{t:Tmp}(hj:l[j]? =some o)(hd:o.dst=none)(hk:zfG o=some t):t∈o.looksAt l.toArray:=by
 have:=List.all_eq_true.1 h o (List.mem_of_getElem? hj)
 simp only[hd,hk]at this
 simpa using this
def Inv (md:Region.Mode)(l:List Oper)(Vs:List Ty)(n:Nat)(listed:Array Bool)(a:Act)(w:World):Prop:=
 C w∧a.tmps.size=n∧a.defers=a0.defers∧
 (∀(i:Nat) (o:Oper) (V:Ty) (t:Tmp),l[i]? =some o→Vs[i]? =some V→zfG o=some t→listed.getD i true=true→V (a.eval (.tmp t)) w)∧
 (∀t,(∀(i:Nat) (o:Oper),l[i]? =some o→o.dst=some t→listed.getD i true=false)→a.eval (.tmp t)=a0.eval (.tmp t))∧
 (∀(j:Nat) (o:Oper),l[j]? =some o→listed.getD j true=true→∀e∈o.after,Region.binds md e=true→listed.getD e.on true=true)
variable {P ops C X a0}
theorem zdU {o:Oper}{t:Tmp}(h:o.dst=some t):zfG o=some t:=by unfold zfG;rw[h]
theorem zfz {md:Region.Mode}{l:List Oper}{Vs:List Ty}{n:Nat}(hok:okB md l n=true)(hkey:keyB l=true)(hk:∀(i:Nat) V,Vs[i]? =some V→Keeps X i V){listed:Array Bool}(hls:listed.size=l.length){a:Act}{w w':World}(h:Inv C a0 md l Vs n listed a w)
  {i:Nat} {o:Oper} {V:Ty} {v:Value} (ho:l[i]? =some o) (hun:listed.getD i true=false) (haf:∀e∈o.after,Region.binds md e=true→listed.getD e.on true=true) (hV:Vs[i]? =some V) (hC:C w') (hX:X i w w') (hv:zd5 V o a v w'):Inv C a0 md l Vs n (listed.setIfInBounds i true) (a.put o.dst v) w':=by
 obtain⟨h1,h2,h3,h4,h5,h6⟩:=h
 obtain⟨k1,k2,k3,_⟩:=zbn hok
 have hil:i<l.length:=(List.getElem?_eq_some_iff.1 ho).1
 refine⟨hC,by cases o.dst<;>simp[Act.put,h2],by cases o.dst<;>simp[Act.put,h3],fun j o' V' t hj hV' ht hl=>?_,fun t ht=>?_,fun j o' hj hl e he hb=>?_⟩
 ·by_cases hij:i=j
  ·subst hij
   rw[ho]at hj;cases hj
   rw[hV]at hV';cases hV'
   unfold zd5 at hv
   cases hd:o.dst with
   | some d=>
    rw[hd]at hv
    rw[zdU hd]at ht
    cases ht
    rw[zdw (by rw[h2];exact k1 i o _ ho hd)]
    exact hv
   | none=>
    simp only[hd,ht]at hv
    exact hv
  ·have hl':listed.getD j true=true:=by rwa [getD_set_ne true hij]at hl
   have hne:∀d,o.dst=some d→d≠t:=fun d hd hx=>by
    subst hx
    cases hd':o'.dst with
    | some d'=>
     rw[zdU hd']at ht
     cases ht
     exact hij (k2 i j o o' d ho hj hd hd')
    | none=>
     obtain⟨_,e,he,hb,hon⟩:=k3 j i o' o d hj ho hd (zkJ hkey hj hd' ht)
     have:=h6 j o' hj hl' e he hb
     rw[hon,hun]at this
     cases this
   rw[Act.eval_put (fun d hd hx=>hne d hd (by cases hx;rfl))]
   exact hk j V' hV' i hij _ _ _ (h4 j o' V' t hj hV' ht hl') hX
 ·rw[Act.eval_put (fun d hd hx=>by
   cases hx
   have:=ht i o ho hd
   simp[hls,hil]at this)]
  refine h5 t fun j o' hj hd=>?_
  by_cases hij:i=j
  ·subst hij
   have:=ht i o' hj hd
   simp[hls,hil]at this
  ·have:=ht j o' hj hd
   rwa [getD_set_ne true hij]at this
 ·have hset:∀x,listed.getD x true=true→(listed.setIfInBounds i true).getD x true=true:=fun x hx=>by
   by_cases hix:i=x
   ·subst hix;simp[hls,hil]
   ·rw[getD_set_ne true hix];exact hx
  by_cases hij:i=j
  ·subst hij
   rw[ho]at hj;cases hj
   exact hset _ (haf e he hb)
  ·rw[getD_set_ne true hij]at hl
   exact hset _ (h6 j o' hj hl e he hb)
theorem zda {md:Region.Mode}{l:List Oper}{Vs:List Ty}{n:Nat}{Q:Exit→Act→World→Prop}(hok:okB md l n=true)(hkey:keyB l=true)(hlen:Vs.length=l.length)(hrefl:∀k w,X k w w)
  (hall:∀(i:Nat) (o:Oper) (V:Ty),l[i]? =some o→Vs[i]? =some V→Keeps X i V∧zeR P l.toArray C X a0 i (envs (l.take i) (Vs.take i) fun _=>none) o V)
  (hQ:∀(listed:Array Bool) (a:Act) (w:World),listed.toList.count false=0→listed.size=l.length→Inv C a0 md l Vs n listed a w→Q .normal a w):
  ∀(fuel:Nat) (listed:Array Bool) (a:Act) (w:World),listed.size=l.length→listed.toList.count false=fuel→Inv C a0 md l Vs n listed a w→wpAny P md l.toArray Q fuel listed a w:=by
 have hk:∀(i:Nat) V,Vs[i]? =some V→Keeps X i V:=fun i V hV=>by
  have hi:i<l.length:=by have:=(List.getElem?_eq_some_iff.1 hV).1;omega
  exact(hall i l[i] V (List.getElem?_eq_getElem hi) hV).1
 have hnone:∀(listed:Array Bool),listed.toList.count false=0→Region.ready md l.toArray listed=[]:=fun listed h0=>by
  rw[List.eq_nil_iff_forall_not_mem]
  intro j hj
  have:=zci (mem_ready.1 hj).1
  have hm:false∈listed.toList:=List.mem_of_getElem? this
  have:=List.count_pos_iff.2 hm
  omega
 intro fuel
 induction fuel with
 | zero=>intro listed a w hs h0 hI;exact⟨hnone listed h0,hQ listed a w h0 hs hI⟩
 | succ fuel ih=>
  intro listed a w hs hf hI
  have hmem:∀i∈Region.ready md l.toArray listed,wpOp P l.toArray Q i (wpAny P md l.toArray Q fuel (listed.setIfInBounds i true)) a w:=by
   intro i hi
   obtain⟨hun,o,ho,hafter⟩:=mem_ready.1 hi
   have ho':l[i]? =some o:=by simpa using ho
   have hil:i<l.length:=(List.getElem?_eq_some_iff.1 ho').1
   obtain⟨V,hV⟩:∃V,Vs[i]? =some V:=⟨Vs[i]'(by omega),List.getElem?_eq_getElem (by omega)⟩
   obtain⟨_,hstep⟩:=hall i o V ho' hV
   obtain⟨k1,k2,k3,_⟩:=zbn hok
   have hcnt:(listed.setIfInBounds i true).toList.count false=fuel:=by
    have:=zdn listed.toList i (zci hun)
    rw[Array.toList_setIfInBounds]
    omega
   have hafter':∀e∈o.after,Region.binds md e=true→listed.getD e.on true=true:=fun e he hb=>by
    have h1:=hafter e he hb
    have hon:=(zbn hok).2.2.2 i o ho' e he hb
    have hjs:e.on<listed.size:=by rw[hs];omega
    simp[hjs]at h1 ⊢
    exact h1
   have hnext:∀(v:Value) (w':World),C w'→X i w w'→zd5 V o a v w'→wpAny P md l.toArray Q fuel (listed.setIfInBounds i true) (a.put o.dst v) w':=fun v w' h1 h2 h3=>
    ih _ _ _ (by simpa using hs) hcnt (zfz hok hkey hk hs hI ho' hun hafter' hV h1 h2 h3)
   have hfits:∀t∈o.looksAt l.toArray,Fits a0 (envs (l.take i) (Vs.take i) fun _=>none) a w t:=by
    intro t ht
    unfold Fits
    by_cases hex:∃(j:Nat) (o':Oper),l[j]? =some o'∧o'.dst=some t
    ·obtain⟨j,o',hj,hd⟩:=hex
     obtain⟨hji,e,he,hb,hon⟩:=k3 i j o o' t ho' hj hd ht
     have hjl:j<Vs.length:=by omega
     have hVj:Vs[j]? =some Vs[j]:=List.getElem?_eq_getElem hjl
     have henv:=zbU (V:=Vs[j]) hd (l.take i) (Vs.take i) (fun _=>none) j (by rw[List.getElem?_take,if_pos hji];exact hj) (by rw[List.getElem?_take,if_pos hji];exact hVj) (fun k o'' hjk hk' hd'=>by
      have hk2:l[k]? =some o'':=by
       rw[List.getElem?_take]at hk'
       split at hk'
       ·exact hk'
       ·cases hk'
      have:=k2 j k o' o'' t hj hk2 hd hd'
      omega)
     rw[henv]
     have hl:=hafter e he hb
     rw[hon]at hl
     have hl':listed.getD j true=true:=by
      have hjs:j<listed.size:=by rw[hs];omega
      simp[hjs]at hl ⊢
      exact hl
     exact hI.2.2.2.1 j o' Vs[j] t hj hVj (zdU hd) hl'
    ·have henv:=zbJ (t:=t) (l.take i) (Vs.take i) (fun _=>none) (fun o' ho' hd=>by
      obtain⟨k,hk'⟩:=List.mem_iff_getElem?.1 ho'
      rw[List.getElem?_take]at hk'
      split at hk'
      ·exact hex ⟨k,o',hk',hd⟩
      ·cases hk')
     rw[henv]
     exact hI.2.2.2.2.1 t fun j o' hj hd=>absurd ⟨j,o',hj,hd⟩ hex
   have hs2:=hstep a w hI.1 hfits
   unfold wpOp
   simp only[ho]
   by_cases hw:Region.wanted o (yielded l.toArray a.tmps)=true
   ·rw[if_pos hw]at hs2
    simp only[hw,if_true]
    left
    unfold Oper.wp
    generalize (execOp a.eval o).run P w=r at*
    cases r with
    | ok nx w'=>
     cases nx<;>simp only[Tame]at hs2<;>simp only[Oper.upon]
     case value v=>exact hnext v w' hs2.1 hs2.2.1 hs2.2.2
     case skip=>exact hnext undef w' hs2.1 hs2.2.1 hs2.2.2
     case enter f args=>
      obtain⟨rfl,hc⟩:=hs2
      exact hc.mono fun e w'' ⟨v,he,h1,h2,h3⟩=>by subst he;exact hnext v w'' h1 h2 h3
    | halt x w'=>simp only[Tame]at hs2
   ·rw[if_neg hw]at hs2
    simp only[hw]
    exact hnext undef w hI.1 (hrefl i w) hs2
  refine⟨fun hr=>?_,hmem⟩
  obtain⟨i,hi,hmin⟩:=znB listed (by omega)
  have hil:i<l.length:=by rw[←hs];exact hi.1
  refine absurd (mem_ready.2 ⟨hi.2,l[i],by simp[hil],fun e he hb=>?_⟩:i∈Region.ready md l.toArray listed) (by rw[hr];simp)
  have hlt:=(zbn hok).2.2.2 i l[i] (List.getElem?_eq_getElem hil) e he hb
  have hes:e.on<listed.size:=by omega
  have:=hmin e.on hlt
  simp[hes]at this ⊢
  exact this
theorem zaf {id n:Nat}{l:List Oper}{Q:Exit→Act→World→Prop}{w:World}(hm:P.follows .mixedOrders=true)(hok:okB .any l n=true)(hkey:keyB l=true)(hn:a0.tmps.size=n)
  (hrefl:∀k w,X k w w) (hC:C {w with drawn:=w.drawn+1})
  (h:zaX P l.toArray C X a0 0 l (fun _=>none) [] fun E F=>∀(a:Act) (w':World),C w'→a.tmps.size=n→a.defers=a0.defers→(∀t,Fits a0 E a w' t)→(∀x∈F,x.2 (a.eval (.tmp x.1)) w')→Q .normal a w'):
  (Code.region id l.toArray true).wp P Q a0 w:=by
 obtain⟨Vs,hlen,hall,hK⟩:=zdE P l.toArray C X a0 0 l _ _ h
 refine wp_region_any hm ?_
 have hsz:(Array.replicate l.toArray.size false).size=l.length:=by simp
 have hall':∀(i:Nat) (o:Oper) (V:Ty),l[i]? =some o→Vs[i]? =some V→Keeps X i V∧zeR P l.toArray C X a0 i (envs (l.take i) (Vs.take i) fun _=>none) o V:=fun i o V h1 h2=>by
  have:=hall i o V h1 h2
  rwa [Nat.zero_add]at this
 refine zda (Vs:=Vs) (n:=n) hok hkey hlen hrefl hall' ?_ _ _ _ _ hsz (by simp) ⟨hC,hn,rfl,fun i o V t ho hV ht hl=>?_,fun t _=>rfl,fun j o hj hl=>?_⟩
 ·intro listed a w' h0 hs hI
  have hall1:∀j,listed.getD j true=true:=fun j=>by
   cases hb:listed.getD j true with
   | true=>rfl
   | false=>
    have hm:false∈listed.toList:=List.mem_of_getElem? (zci hb)
    have:=List.count_pos_iff.2 hm
    omega
  refine hK a w' hI.1 hI.2.1 hI.2.2.1 (fun t=>?_) (fun x hx=>by
   rcases zfW l Vs [] x hx with h|⟨i,o,h1,h2,h3⟩
   ·cases h
   ·exact hI.2.2.2.1 i o x.2 x.1 h1 h2 h3 (hall1 i))
  unfold Fits
  by_cases hex:∃(j:Nat) (o':Oper),l[j]? =some o'∧o'.dst=some t
  ·obtain⟨j,o',hj,hd⟩:=hex
   have hjl:j<Vs.length:=by have:=(List.getElem?_eq_some_iff.1 hj).1;omega
   have hVj:Vs[j]? =some Vs[j]:=List.getElem?_eq_getElem hjl
   rw[zbU (V:=Vs[j]) hd l Vs (fun _=>none) j hj hVj (fun k o'' hjk hk' hd'=>by
    have:=(zbn hok).2.1 j k o' o'' t hj hk' hd hd'
    omega)]
   exact hI.2.2.2.1 j o' Vs[j] t hj hVj (zdU hd) (hall1 j)
  ·rw[zbJ (t:=t) l Vs (fun _=>none) (fun o' ho' hd=>by
    obtain⟨k,hk'⟩:=List.mem_iff_getElem?.1 ho'
    exact hex ⟨k,o',hk',hd⟩)]
   exact hI.2.2.2.2.1 t fun j o' hj hd=>absurd ⟨j,o',hj,hd⟩ hex
 ·have hi:i<l.length:=(List.getElem?_eq_some_iff.1 ho).1
  simp[hi]at hl
 ·have hi:j<l.length:=(List.getElem?_eq_some_iff.1 hj).1
  simp[hi]at hl
theorem w_is {k:Nat}{o:Oper}{rest:List Oper}{E:Tmp→Option Ty}{F:List (Tmp×Ty)}{K:(Tmp→Option Ty)→List (Tmp×Ty)→Prop}(hrefl:∀k w,X k w w){d:Tmp}(hd:o.dst=some d)(c:Value)(G:Wanted ops a0 E o)
  (h:∀(ρ:Operand→Value) (w:World),C w→(∀c,ρ (.const c)=c)→(∀f,ρ (.func f)=.func (.func f) #[] #[])→(∀t∈o.looksAt ops,Fit E a0 ρ w t)→(execOp ρ o).run P w=.ok (.value c) w)
  (hw:zaX P ops C X a0 (k+1) rest (push o (Is c) E) F K):zaX P ops C X a0 k (o::rest) E F K:=
 ⟨Is c,fun _ _ _ _ _ h _=>h,fun a w hC hf=>by
  rw[if_pos (G.on hf),h a.eval w hC (fun _=>rfl) (fun _=>rfl) hf]
  refine⟨hC,hrefl k w,?_⟩
  unfold zd5
  rw[hd]
  exact(rfl:c=c),by rwa [show zeL o (Is c) F=F by unfold zeL;rw[hd]]⟩
theorem za8 {k:Nat}{o:Oper}{rest:List Oper}{E:Tmp→Option Ty}{F:List (Tmp×Ty)}{K:(Tmp→Option Ty)→List (Tmp×Ty)→Prop}{d:Tmp}(hd:o.dst=some d)(V:Ty)(hV:Keeps X k V)(f:FuncId)(G:Wanted ops a0 E o)
  (h:∀(ρ:Operand→Value) (w:World),C w→(∀c,ρ (.const c)=c)→(∀f,ρ (.func f)=.func (.func f) #[] #[])→(∀t∈o.looksAt ops,Fit E a0 ρ w t)→
   ∃args,(execOp ρ o).run P w=.ok (.enter f args) w∧Calls P f args w (fun e w'=>∃v,e=.returned v∧C w'∧X k w w'∧V v w'))
  (hw:zaX P ops C X a0 (k+1) rest (push o V E) F K):zaX P ops C X a0 k (o::rest) E F K:=
 ⟨V,hV,fun a w hC hf=>by
  obtain⟨args,h1,h2⟩:=h a.eval w hC (fun _=>rfl) (fun _=>rfl) hf
  rw[if_pos (G.on hf),h1]
  exact⟨rfl,h2.mono fun e w' ⟨v,e1,e2,e3,e4⟩=>⟨v,e1,e2,e3,by unfold zd5;rw[hd];exact e4⟩⟩,by rwa [show zeL o V F=F by unfold zeL;rw[hd]]⟩
theorem w_make {k:Nat}{o:Oper}{rest:List Oper}{E:Tmp→Option Ty}{F:List (Tmp×Ty)}{K:(Tmp→Option Ty)→List (Tmp×Ty)→Prop}{d:Tmp}(hd:o.dst=some d)(V:Ty)(hV:Keeps X k V)(G:Wanted ops a0 E o)
  (h:∀(ρ:Operand→Value) (w:World),C w→(∀c,ρ (.const c)=c)→(∀f,ρ (.func f)=.func (.func f) #[] #[])→(∀t∈o.looksAt ops,Fit E a0 ρ w t)→
   ∃v w',(execOp ρ o).run P w=.ok (.value v) w'∧C w'∧X k w w'∧V v w')
  (hw:zaX P ops C X a0 (k+1) rest (push o V E) F K):zaX P ops C X a0 k (o::rest) E F K:=
 ⟨V,hV,fun a w hC hf=>by
  obtain⟨v,w',h1,h2,h3,h4⟩:=h a.eval w hC (fun _=>rfl) (fun _=>rfl) hf
  rw[if_pos (G.on hf),h1]
  exact⟨h2,h3,by unfold zd5;rw[hd];exact h4⟩,by rwa [show zeL o V F=F by unfold zeL;rw[hd]]⟩
theorem zp4 {k:Nat}{o:Oper}{rest:List Oper}{E:Tmp→Option Ty}{F:List (Tmp×Ty)}{K:(Tmp→Option Ty)→List (Tmp×Ty)→Prop}{p:Tmp}(hd:o.dst=none)(hp:zfG o=some p)(V:Ty)(hV:Keeps X k V)(G:Wanted ops a0 E o)
  (h:∀(ρ:Operand→Value) (w:World),C w→(∀c,ρ (.const c)=c)→(∀t∈o.looksAt ops,Fit E a0 ρ w t)→
   ∃w',(execOp ρ o).run P w=.ok .skip w'∧C w'∧X k w w'∧V (ρ (.tmp p)) w')
  (hw:zaX P ops C X a0 (k+1) rest E ((p,V)::F) K):zaX P ops C X a0 k (o::rest) E F K:=
 ⟨V,hV,fun a w hC hf=>by
  obtain⟨w',h1,h2,h3,h4⟩:=h a.eval w hC (fun _=>rfl) hf
  rw[if_pos (G.on hf),h1]
  exact⟨h2,h3,by unfold zd5;rw[hd];simp only[hp];exact h4⟩,by
   rw[show zeL o V F=(p,V)::F by unfold zeL;rw[hd];simp only[hp],show push o V E=E by funext t;simp[push,hd]]
   exact hw⟩
end
end Go.Proofs.YtjghebcnmoojmaaGreat.T3
namespace Go.Proofs.YtjghebcnmoojmaaGreat.T3
open Go.RowKit MX

section
variable {P:Program} {C:World→Prop} {X:Nat→World→World→Prop} {a0:Act}

theorem zdX {N g:Nat}{listed:Array Bool}(hs:listed.size=N+g)(ht:∀t,N≤t→t<N+g→listed.getD t true=false):listed.toList.drop N=List.replicate g false:=by
 refine List.ext_getElem (by simp[hs]) fun i h1 h2=>?_
 have h3:i<g:=by simpa using h2
 have h4:=ht (N+i) (by omega) (by omega)
 have h5:N+i<listed.size:=by omega
 simp[h5]at h4
 simp[h4]
theorem zeM {N g:Nat}{listed:Array Bool}(hs:listed.size=N+g)(ht:∀t,N≤t→t<N+g→listed.getD t true=false):listed.toList.count false=(listed.toList.take N).count false+g:=by
 conv=>lhs;rw[←List.take_append_drop N listed.toList]
 rw[List.count_append,zdX hs ht,List.count_replicate_self]
theorem zgR {N g:Nat}{listed:Array Bool}(hs:listed.size=N+g)(ht:∀t,N≤t→t<N+g→listed.getD t true=false)(h0:(listed.toList.take N).count false=0):listed=Array.replicate N true++Array.replicate g false:=by
 have h1:listed.toList.take N=List.replicate N true:=by
  refine List.ext_getElem (by simp[hs]) fun i h1 h2=>?_
  have hm:(listed.toList.take N)[i]∈listed.toList.take N:=List.getElem_mem h1
  have hn:(listed.toList.take N)[i]≠false:=fun e=>(List.count_eq_zero.1 h0) (e▸hm)
  rw[List.getElem_replicate]
  cases hb:(listed.toList.take N)[i]with
  | true=>rfl
  | false=>exact absurd hb hn
 apply Array.ext'
 rw[←List.take_append_drop N listed.toList,h1,zdX hs ht]
 simp
theorem zh5 {md:Region.Mode}{l:List Oper}{Vs:List Ty}{n N g:Nat}{Q:Exit→Act→World→Prop}(hok:okB md l n=true)(hkey:keyB l=true)(hlen:Vs.length=N)(hNg:l.length=N+g)(hg:0<g)
  (hsink:Region.sinkB md l.toArray N=true) (hchain:Region.chainB md l.toArray N=true) (hseq:Region.seqB md l.toArray g N (Array.replicate N true++Array.replicate g false)=true)
  (hall:∀(i:Nat) (o:Oper) (V:Ty),l[i]? =some o→Vs[i]? =some V→Keeps X i V∧zeR P l.toArray C X a0 i (envs (l.take i) (Vs.take i) fun _=>none) o V)
  (hrefl:∀k w,X k w w)
  (hQ:∀(a:Act) (w:World),Inv C a0 md l Vs n (Array.replicate N true++Array.replicate g false) a w→wpList P l.toArray Q (l.drop N) a w):
  ∀(f:Nat) (listed:Array Bool) (a:Act) (w:World),HeadInv md l.toArray N listed→listed.toList.count false=f+g→Inv C a0 md l Vs n listed a w→wpAny P md l.toArray Q (f+g) listed a w:=by
 have hk:∀(i:Nat) V,Vs[i]? =some V→Keeps X i V:=fun i V hV=>by
  have hi:i<l.length:=by have:=(List.getElem?_eq_some_iff.1 hV).1;omega
  exact(hall i l[i] V (List.getElem?_eq_getElem hi) hV).1
 have hsz:l.toArray.size=N+g:=by simpa using hNg
 intro f
 induction f with
 | zero=>
  intro listed a w hH h0 hI
  have hs:listed.size=N+g:=hH.size.trans hsz
  have ht:∀t,N≤t→t<N+g→listed.getD t true=false:=fun t h1 h2=>hH.tail t h1 (by omega)
  have hc:=zeM hs ht
  have hf:=zgR hs ht (by omega)
  subst hf
  have:=wpAny_of_seq (md:=md) (Q':=Q) (P:=P) (l.drop N) N _ a w (ops:=l.toArray) (fun j=>by simp[List.getElem?_drop]) (by rw[show(l.drop N).length=g by simp;omega];exact hseq) (hQ a w hI)
  rw[show(l.drop N).length=0+g by simp;omega]at this
  exact this
 | succ f ih=>
  intro listed a w hH hf hI
  have hs:listed.size=N+g:=hH.size.trans hsz
  have hs':listed.size=l.length:=by omega
  have ht:∀t,N≤t→t<N+g→listed.getD t true=false:=fun t h1 h2=>hH.tail t h1 (by omega)
  have hc:=zeM hs ht
  obtain⟨i0,hi0,hun0⟩:∃i0,i0<N∧listed.getD i0 true=false:=by
   have hm:false∈listed.toList.take N:=List.count_pos_iff.1 (by omega)
   obtain⟨k,hk1,hk2⟩:=List.mem_iff_getElem.1 hm
   have hk3:k<N:=by simp at hk1;omega
   refine⟨k,hk3,?_⟩
   have hk4:k<listed.size:=by omega
   simp at hk2
   simp[hk4,hk2]
  have hhead:∀i∈Region.ready md l.toArray listed,i<N:=fun i hi=>by
   rcases Nat.lt_or_ge i N with h|h
   ·exact h
   ·exact absurd hi (tail_waits hsink hchain (by omega) hH _ i0 rfl hi0 hun0 i h)
  have hmem:∀i∈Region.ready md l.toArray listed,wpOp P l.toArray Q i (wpAny P md l.toArray Q (f+g) (listed.setIfInBounds i true)) a w:=by
   intro i hi
   have hiN:=hhead i hi
   obtain⟨hun,o,ho,hafter⟩:=mem_ready.1 hi
   have ho':l[i]? =some o:=by simpa using ho
   obtain⟨V,hV⟩:∃V,Vs[i]? =some V:=⟨Vs[i]'(by omega),List.getElem?_eq_getElem (by omega)⟩
   obtain⟨_,hstep⟩:=hall i o V ho' hV
   obtain⟨k1,k2,k3,_⟩:=zbn hok
   have hcnt:(listed.setIfInBounds i true).toList.count false=f+g:=by
    have:=zdn listed.toList i (zci hun)
    rw[Array.toList_setIfInBounds]
    omega
   have hafter':∀e∈o.after,Region.binds md e=true→listed.getD e.on true=true:=fun e he hb=>by
    have h1:=hafter e he hb
    have hon:=(zbn hok).2.2.2 i o ho' e he hb
    have hjs:e.on<listed.size:=by omega
    simp[hjs]at h1 ⊢
    exact h1
   have hnext:∀(v:Value) (w':World),C w'→X i w w'→zd5 V o a v w'→wpAny P md l.toArray Q (f+g) (listed.setIfInBounds i true) (a.put o.dst v) w':=fun v w' h1 h2 h3=>
    ih _ _ _ (hH.set hi hiN) hcnt (zfz hok hkey hk hs' hI ho' hun hafter' hV h1 h2 h3)
   have hfits:∀t∈o.looksAt l.toArray,Fits a0 (envs (l.take i) (Vs.take i) fun _=>none) a w t:=by
    intro t ht
    unfold Fits
    by_cases hex:∃(j:Nat) (o':Oper),l[j]? =some o'∧o'.dst=some t
    ·obtain⟨j,o',hj,hd⟩:=hex
     obtain⟨hji,e,he,hb,hon⟩:=k3 i j o o' t ho' hj hd ht
     have hjl:j<Vs.length:=by omega
     have hVj:Vs[j]? =some Vs[j]:=List.getElem?_eq_getElem hjl
     have henv:=zbU (V:=Vs[j]) hd (l.take i) (Vs.take i) (fun _=>none) j (by rw[List.getElem?_take,if_pos hji];exact hj) (by rw[List.getElem?_take,if_pos hji];exact hVj) (fun k o'' hjk hk' hd'=>by
      have hk2:l[k]? =some o'':=by
       rw[List.getElem?_take]at hk'
       split at hk'
       ·exact hk'
       ·cases hk'
      have:=k2 j k o' o'' t hj hk2 hd hd'
      omega)
     rw[henv]
     have hl:=hafter e he hb
     rw[hon]at hl
     have hl':listed.getD j true=true:=by
      have hjs:j<listed.size:=by omega
      simp[hjs]at hl ⊢
      exact hl
     exact hI.2.2.2.1 j o' Vs[j] t hj hVj (zdU hd) hl'
    ·have henv:=zbJ (t:=t) (l.take i) (Vs.take i) (fun _=>none) (fun o' ho' hd=>by
      obtain⟨k,hk'⟩:=List.mem_iff_getElem?.1 ho'
      rw[List.getElem?_take]at hk'
      split at hk'
      ·exact hex ⟨k,o',hk',hd⟩
      ·cases hk')
     rw[henv]
     exact hI.2.2.2.2.1 t fun j o' hj hd=>absurd ⟨j,o',hj,hd⟩ hex
   have hs2:=hstep a w hI.1 hfits
   unfold wpOp
   simp only[ho]
   by_cases hw:Region.wanted o (yielded l.toArray a.tmps)=true
   ·rw[if_pos hw]at hs2
    simp only[hw,if_true]
    left
    unfold Oper.wp
    generalize (execOp a.eval o).run P w=r at*
    cases r with
    | ok nx w'=>
     cases nx<;>simp only[Tame]at hs2<;>simp only[Oper.upon]
     case value v=>exact hnext v w' hs2.1 hs2.2.1 hs2.2.2
     case skip=>exact hnext undef w' hs2.1 hs2.2.1 hs2.2.2
     case enter f args=>
      obtain⟨rfl,hc⟩:=hs2
      exact hc.mono fun e w'' ⟨v,he,h1,h2,h3⟩=>by subst he;exact hnext v w'' h1 h2 h3
    | halt x w'=>simp only[Tame]at hs2
   ·rw[if_neg hw]at hs2
    simp only[hw]
    exact hnext undef w hI.1 (hrefl i w) hs2
  rw[show f+1+g=(f+g)+1 by omega]
  refine⟨fun hr=>?_,hmem⟩
  obtain⟨i,hi,hmin⟩:=znB listed (by omega)
  have hil:i<l.length:=by rw[←hs'];exact hi.1
  refine absurd (mem_ready.2 ⟨hi.2,l[i],by simp[hil],fun e he hb=>?_⟩:i∈Region.ready md l.toArray listed) (by rw[hr];simp)
  have hlt:=(zbn hok).2.2.2 i l[i] (List.getElem?_eq_getElem hil) e he hb
  have hes:e.on<listed.size:=by omega
  have:=hmin e.on hlt
  simp[hes]at this ⊢
  exact this
def zoG (l:List Oper)(N:Nat):Bool:=
 decide (N<l.length)&&Region.sinkB .any l.toArray N&&Region.chainB .any l.toArray N&&Region.seqB .any l.toArray (l.length-N) N (Array.replicate N true++Array.replicate (l.length-N) false)
theorem wp_region_tail {id n:Nat}{l:List Oper}{Q:Exit→Act→World→Prop}{w:World}(N:Nat)(hm:P.follows .mixedOrders=true)(hok:okB .any l n=true)(hkey:keyB l=true)(htail:zoG l N=true)(hn:a0.tmps.size=n)
  (hrefl:∀k w,X k w w) (hC:C {w with drawn:=w.drawn+1})
  (h:zaX P l.toArray C X a0 0 (l.take N) (fun _=>none) [] fun E _=>∀(a:Act) (w':World),C w'→a.tmps.size=n→a.defers=a0.defers→(∀t,Fits a0 E a w' t)→wpList P l.toArray Q (l.drop N) a w'):
  (Code.region id l.toArray true).wp P Q a0 w:=by
 unfold zoG at htail
 simp only[Bool.and_eq_true,decide_eq_true_eq]at htail
 obtain⟨⟨⟨hN,hsink⟩,hchain⟩,hseq⟩:=htail
 have htl:(l.take N).length=N:=by rw[List.length_take];omega
 obtain⟨Vs,hlen,hall,hK⟩:=zdE P l.toArray C X a0 0 (l.take N) _ _ h
 rw[htl]at hlen
 have htt:∀i,i<N→(l.take N).take i=l.take i:=fun i hi=>by rw[List.take_take];congr 1;omega
 have hall':∀(i:Nat) (o:Oper) (V:Ty),l[i]? =some o→Vs[i]? =some V→Keeps X i V∧zeR P l.toArray C X a0 i (envs (l.take i) (Vs.take i) fun _=>none) o V:=fun i o V h1 h2=>by
  have hi:i<N:=by have:=(List.getElem?_eq_some_iff.1 h2).1;omega
  have:=hall i o V (by rw[List.getElem?_take,if_pos hi];exact h1) h2
  rw[htt i hi]at this
  rwa [Nat.zero_add]at this
 refine wp_region_any hm ?_
 have hsz:(Array.replicate l.toArray.size false).size=l.length:=by simp
 have inv0:HeadInv .any l.toArray N (Array.replicate l.toArray.size false):=
  ⟨by simp,fun j oj _ hl=>(by rw[getD_replicate_false]at hl;cases hl),fun t _ ht=>getD_in (by simpa using ht) (getD_replicate_false _ _)⟩
 have hfa:∀(i:Nat),i<l.length→(Array.replicate l.toArray.size false).getD i true=false:=fun i hi=>getD_in (by simpa using hi) (getD_replicate_false _ _)
 have H:=zh5 (P:=P) (C:=C) (X:=X) (a0:=a0) (Vs:=Vs) (n:=n) (N:=N) (g:=l.length-N) (Q:=Q) hok hkey hlen (by omega) (by omega) hsink hchain hseq hall' hrefl ?_ N (Array.replicate l.toArray.size false) a0 {w with drawn:=w.drawn+1} inv0 (by simp;omega) ⟨hC,hn,rfl,fun i o V t ho hV ht hl=>?_,fun t _=>rfl,fun j o hj hl=>?_⟩
 ·rwa [show N+(l.length-N)=l.toArray.size by simp;omega]at H
 ·intro a w' hI
  have hall1:∀j,j<N→(Array.replicate N true++Array.replicate (l.length-N) false).getD j true=true:=fun j hj=>by
   simp[Array.getElem?_append,hj]
  refine hK a w' hI.1 hI.2.1 hI.2.2.1 (fun t=>?_)
  unfold Fits
  by_cases hex:∃(j:Nat) (o':Oper),(l.take N)[j]? =some o'∧o'.dst=some t
  ·obtain⟨j,o',hj,hd⟩:=hex
   have hjN:j<N:=by have:=(List.getElem?_eq_some_iff.1 hj).1;omega
   have hjl:l[j]? =some o':=by rw[List.getElem?_take,if_pos hjN]at hj;exact hj
   have hVj:Vs[j]? =some (Vs[j]'(by omega)):=List.getElem?_eq_getElem (by omega)
   rw[zbU (V:=Vs[j]'(by omega)) hd (l.take N) Vs (fun _=>none) j hj hVj (fun k o'' hjk hk' hd'=>by
    have hk2:l[k]? =some o'':=by
     rw[List.getElem?_take]at hk'
     split at hk'
     ·exact hk'
     ·cases hk'
    have:=(zbn hok).2.1 j k o' o'' t hjl hk2 hd hd'
    omega)]
   exact hI.2.2.2.1 j o' _ t hjl hVj (zdU hd) (hall1 j hjN)
  ·rw[zbJ (t:=t) (l.take N) Vs (fun _=>none) (fun o' ho' hd=>by
    obtain⟨k,hk'⟩:=List.mem_iff_getElem?.1 ho'
    exact hex ⟨k,o',hk',hd⟩)]
   refine hI.2.2.2.2.1 t fun j o' hj hd=>?_
   have hjN:¬j<N:=fun hjN=>hex ⟨j,o',by rw[List.getElem?_take,if_pos hjN];exact hj,hd⟩
   have hj2:j<l.length:=(List.getElem?_eq_some_iff.1 hj).1
   have h3:j-N<l.length-N:=by omega
   simp[Array.getElem?_append,hjN,h3]
 ·have hi:i<l.length:=(List.getElem?_eq_some_iff.1 ho).1
  rw[hfa i hi]at hl;cases hl
 ·have hi:j<l.length:=(List.getElem?_eq_some_iff.1 hj).1
  rw[hfa j hi]at hl;cases hl
end
end Go.Proofs.YtjghebcnmoojmaaGreat.T3
namespace Go.Proofs.YtjghebcnmoojmaaGreat
open Go.RowKit MX
section
variable {P:Program} {ops:Array Oper} {C:World→Prop} {X:World→World→Prop} {a0:Act}
theorem znW {o:Oper}{rest:List Oper}{E:Tmp→Option Ty}{K:(Tmp→Option Ty)→Prop}{g:Nat}{d:Tmp}{want:Bool}(h1:o.guard=some (g,want))(h2:(ops[g]?).bind (·.dst)=some d)(h3:ziL E a0 d undef)
  (hw:zaX P ops C X a0 rest (push o (Is undef) E) K):zaX P ops C X a0 (o::rest) E K:=
 ⟨Is undef,fun _ _ _ h _=>h,fun a w hC hf=>by
  have hv:=h3 a w (hf d (by simp[Oper.looksAt,h1,h2]))
  have hy:yielded ops a.tmps g=none:=by
   unfold yielded
   rw[h2]
   simp only[Act.eval]at hv
   rcases Nat.lt_or_ge d a.tmps.size with h|h
   ·simp[h]at hv
    simp[h,hv,undef]
   ·simp[Array.getElem?_eq_none h]
  rw[if_neg (by simp[Region.wanted,h1,hy])]
  rfl,hw⟩
end
section
section
variable {P:Program} {ops:Array Oper} {C:World→Prop} {X:World→World→Prop} {a0:Act}
theorem wA {o:Oper} {rest:List Oper} {E:Tmp→Option Ty} {K:(Tmp→Option Ty)→Prop} {c:Value} (s:Tmp) (hw:zaX P ops C X a0 rest (push o (Is c) E) K) (hr:∀w,X w w:=by exact fun w=>Below.refl _ w) (G:Wanted ops a0 E o:=by first|exact .inl rfl|exact .inr ⟨_,_,_,rfl,rfl,zaI rfl⟩) (ms:s∈o.looksAt ops:=by decide) (h:∀(ρ:Operand→Value) (w:World),C w→(∀c,ρ (.const c)=c)→(∀f,ρ (.func f)=.func (.func f) #[] #[])→Fit E a0 ρ w s→(execOp ρ o).run P w=.ok (.value c) w:=by intro ρ w hC hc hfn hs;have es:ρ (.tmp _)=_:=hs;conv=>lhs;simp[execOp,go_sem,hc,es]):zaX P ops C X a0 (o::rest) E K:=w_is hr c G (fun ρ w hC hc hfn hf=>h ρ w hC hc hfn (hf s ms)) hw
theorem wB {o:Oper} {rest:List Oper} {E:Tmp→Option Ty} {K:(Tmp→Option Ty)→Prop} {c:Value} (s t:Tmp) (hw:zaX P ops C X a0 rest (push o (Is c) E) K) (hr:∀w,X w w:=by exact fun w=>Below.refl _ w) (G:Wanted ops a0 E o:=by first|exact .inl rfl|exact .inr ⟨_,_,_,rfl,rfl,zaI rfl⟩) (ms:s∈o.looksAt ops:=by decide) (mt:t∈o.looksAt ops:=by decide) (h:∀(ρ:Operand→Value) (w:World),C w→(∀c,ρ (.const c)=c)→(∀f,ρ (.func f)=.func (.func f) #[] #[])→Fit E a0 ρ w s→Fit E a0 ρ w t→(execOp ρ o).run P w=.ok (.value c) w:=by intro ρ w hC hc hfn hs ht;have es:ρ (.tmp _)=_:=hs;have et:ρ (.tmp _)=_:=ht;conv=>lhs;simp[execOp,go_sem,hc,es,et]):zaX P ops C X a0 (o::rest) E K:=w_is hr c G (fun ρ w hC hc hfn hf=>h ρ w hC hc hfn (hf s ms) (hf t mt)) hw
theorem wC {o:Oper} {rest:List Oper} {E:Tmp→Option Ty} {K:(Tmp→Option Ty)→Prop} {c:Value} (s:Tmp) {p:World→Prop} (kc:∀w,C w→p w) (hw:zaX P ops C X a0 rest (push o (Is c) E) K) (hr:∀w,X w w:=by exact fun w=>Below.refl _ w) (G:Wanted ops a0 E o:=by first|exact .inl rfl|exact .inr ⟨_,_,_,rfl,rfl,zaI rfl⟩) (ms:s∈o.looksAt ops:=by decide) (h:∀(ρ:Operand→Value) (w:World),C w→(∀c,ρ (.const c)=c)→(∀f,ρ (.func f)=.func (.func f) #[] #[])→Fit E a0 ρ w s→p w→(execOp ρ o).run P w=.ok (.value c) w:=by intro ρ w hC hc hfn hs kc;have es:ρ (.tmp _)=_:=hs;conv=>lhs;simp[execOp,go_sem,hc,es,kc]):zaX P ops C X a0 (o::rest) E K:=w_is hr c G (fun ρ w hC hc hfn hf=>h ρ w hC hc hfn (hf s ms) (kc w hC)) hw
theorem wD {o:Oper} {rest:List Oper} {E:Tmp→Option Ty} {K:(Tmp→Option Ty)→Prop} {c:Value} (s:Tmp) {p:Prop} (g:p) (hw:zaX P ops C X a0 rest (push o (Is c) E) K) (hr:∀w,X w w:=by exact fun w=>Below.refl _ w) (G:Wanted ops a0 E o:=by first|exact .inl rfl|exact .inr ⟨_,_,_,rfl,rfl,zaI rfl⟩) (ms:s∈o.looksAt ops:=by decide) (h:∀(ρ:Operand→Value) (w:World),C w→(∀c,ρ (.const c)=c)→(∀f,ρ (.func f)=.func (.func f) #[] #[])→Fit E a0 ρ w s→p→(execOp ρ o).run P w=.ok (.value c) w:=by intro ρ w hC hc hfn hs g;have es:ρ (.tmp _)=_:=hs;conv=>lhs;simp[execOp,go_sem,hc,es,g]):zaX P ops C X a0 (o::rest) E K:=w_is hr c G (fun ρ w hC hc hfn hf=>h ρ w hC hc hfn (hf s ms) g) hw
theorem wE {o:Oper} {rest:List Oper} {E:Tmp→Option Ty} {K:(Tmp→Option Ty)→Prop} {c:Value} (s t:Tmp) {p:Prop} (g:p) (hw:zaX P ops C X a0 rest (push o (Is c) E) K) (hr:∀w,X w w:=by exact fun w=>Below.refl _ w) (G:Wanted ops a0 E o:=by first|exact .inl rfl|exact .inr ⟨_,_,_,rfl,rfl,zaI rfl⟩) (ms:s∈o.looksAt ops:=by decide) (mt:t∈o.looksAt ops:=by decide) (h:∀(ρ:Operand→Value) (w:World),C w→(∀c,ρ (.const c)=c)→(∀f,ρ (.func f)=.func (.func f) #[] #[])→Fit E a0 ρ w s→Fit E a0 ρ w t→p→(execOp ρ o).run P w=.ok (.value c) w:=by intro ρ w hC hc hfn hs ht g;have es:ρ (.tmp _)=_:=hs;have et:ρ (.tmp _)=_:=ht;conv=>lhs;simp[execOp,go_sem,hc,es,et,g]):zaX P ops C X a0 (o::rest) E K:=w_is hr c G (fun ρ w hC hc hfn hf=>h ρ w hC hc hfn (hf s ms) (hf t mt) g) hw
theorem wK {o:Oper} {rest:List Oper} {E:Tmp→Option Ty} {K:(Tmp→Option Ty)→Prop} {g:Nat} {d:Tmp} {want:Bool} (hw:zaX P ops C X a0 rest (push o (Is undef) E) K) (h1:o.guard=some (g,want):=by exact rfl) (h2:(ops[g]?).bind (·.dst)=some d:=by exact rfl) (h3:ziL E a0 d (.bool (!want)):=by exact zaI rfl):zaX P ops C X a0 (o::rest) E K:=zoW h1 h2 h3 hw
theorem wU {o:Oper} {rest:List Oper} {E:Tmp→Option Ty} {K:(Tmp→Option Ty)→Prop} {g:Nat} {d:Tmp} {want:Bool} (hw:zaX P ops C X a0 rest (push o (Is undef) E) K) (h1:o.guard=some (g,want):=by exact rfl) (h2:(ops[g]?).bind (·.dst)=some d:=by exact rfl) (h3:ziL E a0 d undef:=by exact zaI rfl):zaX P ops C X a0 (o::rest) E K:=znW h1 h2 h3 hw
end
end
end Go.Proofs.YtjghebcnmoojmaaGreat
