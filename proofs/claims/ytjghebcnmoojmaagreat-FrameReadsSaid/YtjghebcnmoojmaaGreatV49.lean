/- The bytes of what a part has: -/
import Derived.Test.YtjghebcnmoojmaaGreatV47
import Derived.Test.YtjghebcnmoojmaaGreatV48
set_option maxRecDepth 100000
set_option maxHeartbeats 32000000
namespace Go.Proofs.YtjghebcnmoojmaaGreat
open Go.RowKit MX MR
def Pt.Alone (p:Pt):Prop:=(p.noBe∨p.k=1)∧(p.noBt∨p.k=2)∧(p.noAk∨p.k=3)∧(p.noPk∨p.k=4)
instance (p:Pt):Decidable p.Alone:=by unfold Pt.Alone;infer_instance
theorem zlf {p:Pt}(h:p.k=1):p.Ok↔BeOk p.be p.es∧p.Alone:=by rw[ziN h];unfold Pt.Alone;rw[h];simp
theorem zma {p:Pt}(h:p.k=2):p.Ok↔BtOk p.bn p.os∧p.Alone:=by rw[zit h];unfold Pt.Alone;rw[h];simp;exact⟨fun⟨a,b,c,d⟩=>⟨b,a,c,d⟩,fun⟨b,a,c,d⟩=>⟨a,b,c,d⟩⟩
theorem zmb {p:Pt}(h:p.k=3):p.Ok↔zbq p.ks∧p.Alone:=by rw[zig h];unfold Pt.Alone;rw[h];simp;exact⟨fun⟨a,b,c,d⟩=>⟨c,a,b,d⟩,fun⟨c,a,b,d⟩=>⟨a,b,c,d⟩⟩
theorem zlF {p:Pt}(h:p.k=4):p.Ok↔PkOk p.s p.d p.t p.n p.x∧p.Alone:=by rw[ziV h];unfold Pt.Alone;rw[h];simp;exact⟨fun⟨a,b,c,d⟩=>⟨d,a,b,c⟩,fun⟨d,a,b,c⟩=>⟨a,b,c,d⟩⟩
theorem zea (r:RPt)(p:Pt)(w:World)(h:r.Rd w p):Calls Tryz.prog 64 #[.agg (xR r)] w fun e w'=>e=.returned (.bool (decide p.Alone))∧Below w.heap.size w w':=by
 refine zly r _ _ _ _ _ _ (decide p.Alone) rfl rfl rfl rfl rfl rfl ?_ w
 rw[decide_eq_true_iff]
 unfold Pt.Alone Pt.noBe Pt.noBt Pt.noAk Pt.noPk Imp9
 have hx:(!eqK r.s r.d r.t r.n r.x 0 0 0 0 ⟨#[]⟩)=true↔¬(p.s=0∧p.d=0∧p.t=0∧p.n=0∧p.x=⟨#[]⟩):=by
  rw[Bool.not_eq_true',Bool.eq_false_iff,ne_eq,zc9,h.s,h.d,h.t,h.n,h.x]
  simp only[Prod.mk.injEq]
 rw[hx,h.k,h.be,h.bn,h.l1,h.l2,h.l3]
 simp only[Bool.or_eq_true,bne_iff_ne,ne_eq]
 refine Iff.symm ?_
 constructor
 ·rintro⟨a1,a2,a3,a4⟩
  refine⟨?_,?_,?_,?_⟩
  ·by_cases hk:p.k=1
   ·exact .inr hk
   ·refine .inl ⟨?_,?_⟩
    ·exact Decidable.byContradiction fun hh=>hk (a1 (.inl hh))
    ·exact Decidable.byContradiction fun hh=>hk (a1 (.inr (by omega)))
  ·by_cases hk:p.k=2
   ·exact .inr hk
   ·refine .inl ⟨?_,?_⟩
    ·exact Decidable.byContradiction fun hh=>hk (a2 (.inl hh))
    ·exact Decidable.byContradiction fun hh=>hk (a2 (.inr (by omega)))
  ·by_cases hk:p.k=3
   ·exact .inr hk
   ·exact .inl (Decidable.byContradiction fun hh=>hk (a3 (by omega)))
  ·by_cases hk:p.k=4
   ·exact .inr hk
   ·exact .inl (Decidable.byContradiction fun hh=>hk (a4 hh))
 ·rintro⟨a1,a2,a3,a4⟩
  refine⟨fun hh=>?_,fun hh=>?_,fun hh=>?_,fun hh=>?_⟩
  ·rcases a1 with a|a
   ·rcases hh with hh|hh
    ·exact absurd a.1 hh
    ·have:=a.2;omega
   ·exact a
  ·rcases a2 with a|a
   ·rcases hh with hh|hh
    ·exact absurd a.1 hh
    ·have:=a.2;omega
   ·exact a
  ·rcases a3 with a|a
   ·omega
   ·exact a
  ·rcases a4 with a|a
   ·exact absurd a hh
   ·exact a
def RetS (w:World)(L:List Int)(K:Int)(e:Ending)(w':World):Prop:=(∃v,e=.returned (.tuple #[v,xI K])∧w'.ownsRow w.heap.size 5 1 v L.length (L.map (Value.int .u8)))∧Below w.heap.size w w'
theorem zdO {w w':World}{e:Ending}(h:e=.returned (.tuple #[xS,xI 1])∧Below w.heap.size w w'):RetS w [] 1 e w':=⟨⟨_,h.1,World.ownsRow_nil _ _ _ _⟩,h.2⟩
theorem RetS.below {w w' W:World}{L:List Int}{K:Int}{e:Ending}(h:RetS w L K e w')(hb:Below W.heap.size W w):RetS W L K e w':=by
 obtain⟨⟨v,h1,h2⟩,h3⟩:=h
 exact⟨⟨v,h1,zbs h2 hb.size⟩,hb.trans (h3.mono hb.size)⟩
def spL (p:Pt):List Int:=if p.Ok then p.bs else[]
def spK (p:Pt):Int:=if p.Ok then 0 else 1
theorem znA (M:Int)(v:Value)(ys:List (Int×Int))(w:World)(hE:El w v ys)(hl:ys.length≤1000):Calls Tryz.prog 76 #[.agg #[xI M,v]] w (RetS w (byL M ys) (byK M ys)):=by
 unfold byL byK
 by_cases h:BeOk M ys
 ·rw[if_pos h,if_pos h];exact zkM M v ys w hE h
 ·rw[if_neg h,if_neg h];exact(zjM M v ys w hE (by omega) h).mono fun _ _ h=>zdO h
theorem ziy (M:Int)(v:Value)(ys:List Ob)(w:World)(hy:Os w v ys)(hl:ys.length≤3000)(h:¬BtOk M ys):Calls Tryz.prog 78 #[.agg #[xI M,v]] w fun e w'=>e=.returned (.tuple #[xS,xI 1])∧Below w.heap.size w w':=by
 obtain⟨a,c,rfl⟩:=hy.form
 have cR:=zcP M _ ys (w.alloc (.cells #[xI M,.slice a ys.length c] 45)) (hy.alloc _) hl
 rw[btc,if_neg h]at cR
 clear h hy
 go_enter Tryz.func78,Tryz.ntmps78
 go_wp2_with (go_at_call 102;refine cR.mono ?_;rintro e w1 ⟨rfl,hb⟩;have HB:Hid (Below w.heap.size w w1):=(xr.alloc xl _).trans (hb.mono (by simp));clear hb)
 go_ret2
 exact⟨rfl,HB.out⟩
theorem zmR (M:Int)(v:Value)(ys:List Ob)(w:World)(hy:Os w v ys)(hl:ys.length≤3000):Calls Tryz.prog 78 #[.agg #[xI M,v]] w (RetS w (btBs M ys) (btc M ys)):=by
 unfold btBs btc
 by_cases h:BtOk M ys
 ·rw[if_pos h,if_pos h];exact(zic M v ys w hy h).mono fun _ _ ⟨r,h1,h2,h3⟩=>⟨⟨r,h1,h2.1⟩,h3⟩
 ·rw[if_neg h,if_neg h];exact(ziy M v ys w hy hl h).mono fun _ _ h=>zdO h
theorem znD (v:Value)(ys:List (Int×Int×Int×Int))(w:World)(hy:As w v ys)(hl:ys.length≤3000):Calls Tryz.prog 80 #[v] w (RetS w (byA ys) (byE ys)):=by
 unfold byA byE
 by_cases h:zbq ys
 ·rw[if_pos h,if_pos h];exact zi1 v ys w hy h
 ·rw[if_neg h,if_neg h];exact(ziS v ys w hy hl h).mono fun _ _ h=>zdO h
theorem znM (s d t n:Int)(x:ByteArray)(w:World):Calls Tryz.prog 82 #[.agg (xA s d t n (.string x))] w (RetS w (byP s d t n x) (kP s d t n x)):=by
 unfold byP kP
 by_cases h:PkOk s d t n x
 ·rw[if_pos h,if_pos h];exact zi8 s d t n x w h
 ·rw[if_neg h,if_neg h];exact(zkf s d t n x w h).mono fun _ _ h=>zdO h
theorem gsp1 (b:Nat)(r:RPt)(p:Pt)(w:World)(ho:OwnT w b r)(h:r.Rd w p)(hl:zaR p):Calls Tryz.prog 75 #[xP b] w (RetS w (byL r.be p.es) (byK r.be p.es)):=by
 have RA:=xh h
 have HL:Hid (zaR p):=hl
 obtain⟨⟨u0,u1,u2,u3,u4,u5,u6,u7,u8,u9,u10⟩,-⟩:=ho
 clear h hl
 go_enter Tryz.func75,Tryz.ntmps75
 go_wp2_with fail
 clear u0 u1 u2 u3 u4 u5 u6 u7 u8 u9 u10
 refine(znA r.be _ p.es _ RA.out.es (by have:=HL.out.1;omega)).mono ?_
 rintro e w1 ⟨⟨v9,rfl,hB⟩,hb⟩
 obtain⟨a9,c9,rfl⟩:=zap hB
 have HB1:=xh hB
 have HB2:=xh hb
 clear hB hb
 go_wp2_with fail
 go_ret2
 exact⟨⟨_,rfl,HB1.out⟩,HB2.out⟩
theorem gsp2 (b:Nat)(r:RPt)(p:Pt)(w:World)(ho:OwnT w b r)(h:r.Rd w p)(hl:zaR p):Calls Tryz.prog 77 #[xP b] w (RetS w (btBs r.bn p.os) (btc r.bn p.os)):=by
 have RA:=xh h
 have HL:Hid (zaR p):=hl
 obtain⟨⟨u0,u1,u2,u3,u4,u5,u6,u7,u8,u9,u10⟩,-⟩:=ho
 clear h hl
 go_enter Tryz.func77,Tryz.ntmps77
 go_wp2_with fail
 clear u0 u1 u2 u3 u4 u5 u6 u7 u8 u9 u10
 refine(zmR r.bn _ p.os _ RA.out.os (by have:=HL.out.2.1;omega)).mono ?_
 rintro e w1 ⟨⟨v9,rfl,hB⟩,hb⟩
 obtain⟨a9,c9,rfl⟩:=zap hB
 have HB1:=xh hB
 have HB2:=xh hb
 clear hB hb
 go_wp2_with fail
 go_ret2
 exact⟨⟨_,rfl,HB1.out⟩,HB2.out⟩
theorem gsp3 (b:Nat)(r:RPt)(p:Pt)(w:World)(ho:OwnT w b r)(h:r.Rd w p)(hl:zaR p):Calls Tryz.prog 79 #[xP b] w (RetS w (byA p.ks) (byE p.ks)):=by
 have RA:=xh h
 have HL:Hid (zaR p):=hl
 obtain⟨⟨u0,u1,u2,u3,u4,u5,u6,u7,u8,u9,u10⟩,-⟩:=ho
 clear h hl
 go_enter Tryz.func79,Tryz.ntmps79
 go_wp2_with fail
 clear u0 u1 u2 u3 u4 u5 u6 u7 u8 u9 u10
 refine(znD _ p.ks _ RA.out.ks (by have:=HL.out.2.2.1;omega)).mono ?_
 rintro e w1 ⟨⟨v9,rfl,hB⟩,hb⟩
 obtain⟨a9,c9,rfl⟩:=zap hB
 have HB1:=xh hB
 have HB2:=xh hb
 clear hB hb
 go_wp2_with fail
 go_ret2
 exact⟨⟨_,rfl,HB1.out⟩,HB2.out⟩
theorem gsp4 (b:Nat)(r:RPt)(p:Pt)(w:World)(ho:OwnT w b r)(h:r.Rd w p)(hl:zaR p):Calls Tryz.prog 81 #[xP b] w (RetS w (byP r.s r.d r.t r.n r.x) (kP r.s r.d r.t r.n r.x)):=by
 have RA:=xh h
 have HL:Hid (zaR p):=hl
 obtain⟨⟨u0,u1,u2,u3,u4,u5,u6,u7,u8,u9,u10⟩,-⟩:=ho
 clear h hl
 go_enter Tryz.func81,Tryz.ntmps81
 go_wp2_with fail
 clear u0 u1 u2 u3 u4 u5 u6 u7 u8 u9 u10
 refine(znM r.s r.d r.t r.n r.x _).mono ?_
 rintro e w1 ⟨⟨v9,rfl,hB⟩,hb⟩
 obtain⟨a9,c9,rfl⟩:=zap hB
 have HB1:=xh hB
 have HB2:=xh hb
 clear hB hb
 go_wp2_with fail
 go_ret2
 exact⟨⟨_,rfl,HB1.out⟩,HB2.out⟩
theorem zcK (W:World)(O:Obj)(b:Nat)(hb:b=W.heap.size):(W.alloc O).heap[b]? =some O:=by
 subst hb
 simp[World.alloc,-World.alloc_eq]
theorem zeb {p:Pt}(h:p.Ok):p.Alone:=by
 rcases h with ⟨hk,_,a,b,c⟩|⟨hk,a,_,b,c⟩|⟨hk,a,b,_,c⟩|⟨hk,a,b,c,_⟩
 ·exact⟨.inr hk,.inl a,.inl b,.inl c⟩
 ·exact⟨.inl a,.inr hk,.inl b,.inl c⟩
 ·exact⟨.inl a,.inl b,.inr hk,.inl c⟩
 ·exact⟨.inl a,.inl b,.inl c,.inr hk⟩
theorem zeN {w w':World}{p:Pt}(h:¬p.Ok)(hb:Below w.heap.size w w'):RetS w (spL p) (spK p) (.returned (.tuple #[xS,xI 1])) w':=by
 unfold spL spK
 rw[if_neg h,if_neg h]
 exact zdO ⟨rfl,hb⟩
theorem zpN {w:World}{r:RPt}{p:Pt}(h:r.Rd w p)(hk:p.k=1)(ha:p.Alone):spL p=byL r.be p.es∧spK p=byK r.be p.es:=by
 have e:=zlf hk
 unfold spL spK byL byK
 rw[h.be]
 by_cases hb:BeOk p.be p.es
 ·have h9:p.Ok:=e.2 ⟨hb,ha⟩
  rw[if_pos h9,if_pos hb,if_pos h9,if_pos hb,zkH hk];exact⟨rfl,rfl⟩
 ·have h9:¬p.Ok:=fun h=>hb (e.1 h).1
  rw[if_neg h9,if_neg hb,if_neg h9,if_neg hb];exact⟨rfl,rfl⟩
theorem zpE {w:World}{r:RPt}{p:Pt}(h:r.Rd w p)(hk:p.k=2)(ha:p.Alone):spL p=btBs r.bn p.os∧spK p=btc r.bn p.os:=by
 have e:=zma hk
 unfold spL spK btBs btc
 rw[h.bn]
 by_cases hb:BtOk p.bn p.os
 ·have h9:p.Ok:=e.2 ⟨hb,ha⟩
  rw[if_pos h9,if_pos hb,if_pos h9,if_pos hb,zkG hk];exact⟨rfl,rfl⟩
 ·have h9:¬p.Ok:=fun h=>hb (e.1 h).1
  rw[if_neg h9,if_neg hb,if_neg h9,if_neg hb];exact⟨rfl,rfl⟩
theorem zpZ {w:World}{r:RPt}{p:Pt}(_:r.Rd w p)(hk:p.k=3)(ha:p.Alone):spL p=byA p.ks∧spK p=byE p.ks:=by
 have e:=zmb hk
 unfold spL spK byA byE
 by_cases hb:zbq p.ks
 ·have h9:p.Ok:=e.2 ⟨hb,ha⟩
  rw[if_pos h9,if_pos hb,if_pos h9,if_pos hb,zkI hk];exact⟨rfl,rfl⟩
 ·have h9:¬p.Ok:=fun h=>hb (e.1 h).1
  rw[if_neg h9,if_neg hb,if_neg h9,if_neg hb];exact⟨rfl,rfl⟩
theorem zpH {w:World}{r:RPt}{p:Pt}(h:r.Rd w p)(hk:p.k=4)(ha:p.Alone):spL p=byP r.s r.d r.t r.n r.x∧spK p=kP r.s r.d r.t r.n r.x:=by
 have e:=zlF hk
 unfold spL spK byP kP
 rw[h.s,h.d,h.t,h.n,h.x]
 by_cases hb:PkOk p.s p.d p.t p.n p.x
 ·have h9:p.Ok:=e.2 ⟨hb,ha⟩
  rw[if_pos h9,if_pos hb,if_pos h9,if_pos hb,zkd hk];exact⟨rfl,rfl⟩
 ·have h9:¬p.Ok:=fun h=>hb (e.1 h).1
  rw[if_neg h9,if_neg hb,if_neg h9,if_neg hb];exact⟨rfl,rfl⟩
theorem zco:Tryz.prog.underlying 107=some (.map 3 105):=by kernel_rfl
theorem zch:Tryz.prog.underlying 3=some (.int .i64):=by kernel_rfl
theorem zpa (w:World):(zeroValue 105).run Tryz.prog w=.ok .nilFunc w:=by kernel_rfl
theorem zcz (r:RPt)(w:World):Calls Tryz.prog 63 #[.agg (xR r)] w fun e w'=>e=.returned (.map (some (w.heap.size+1)))∧w'=(w.alloc (.cells (xR r) 50)).alloc (.map (ent4 (xW 75 w.heap.size) (xW 77 w.heap.size) (xW 79 w.heap.size) (xW 81 w.heap.size)) 4):=by
 have hmm:= @run_makeMap Tryz.prog
 have hs:w.heap.size+1=(w.alloc (.cells (xR r) 50)).heap.size:=by simp
 have u1:=zbX (P:=Tryz.prog) zco zch (w.alloc (.cells (xR r) 50)) #[] #[⟨xI 1,(xW 75 w.heap.size),0⟩] 0 1 (xW 75 w.heap.size) (w.heap.size+1) hs (by rfl) rfl
 have u2:=zbX (P:=Tryz.prog) zco zch (w.alloc (.cells (xR r) 50)) #[⟨xI 1,(xW 75 w.heap.size),0⟩] #[⟨xI 1,(xW 75 w.heap.size),0⟩,⟨xI 2,(xW 77 w.heap.size),1⟩] 1 2 (xW 77 w.heap.size) (w.heap.size+1) hs (by simp[Instr.findNow,Instr.sameNow]) rfl
 have u3:=zbX (P:=Tryz.prog) zco zch (w.alloc (.cells (xR r) 50)) #[⟨xI 1,(xW 75 w.heap.size),0⟩,⟨xI 2,(xW 77 w.heap.size),1⟩] #[⟨xI 1,(xW 75 w.heap.size),0⟩,⟨xI 2,(xW 77 w.heap.size),1⟩,⟨xI 3,(xW 79 w.heap.size),2⟩] 2 3 (xW 79 w.heap.size) (w.heap.size+1) hs (by simp[Instr.findNow,Instr.sameNow]) rfl
 have u4:=zbX (P:=Tryz.prog) zco zch (w.alloc (.cells (xR r) 50)) #[⟨xI 1,(xW 75 w.heap.size),0⟩,⟨xI 2,(xW 77 w.heap.size),1⟩,⟨xI 3,(xW 79 w.heap.size),2⟩] (ent4 (xW 75 w.heap.size) (xW 77 w.heap.size) (xW 79 w.heap.size) (xW 81 w.heap.size)) 3 4 (xW 81 w.heap.size) (w.heap.size+1) hs (by simp[Instr.findNow,Instr.sameNow]) rfl
 simp only[Nat.zero_add,Nat.reduceAdd]at u1 u2 u3 u4
 clear hs
 go_enter Tryz.func63,Tryz.ntmps63
 go_wp2_with fail
 go_ret
 exact⟨rfl,rfl⟩
theorem zm3 (r:RPt)(p:Pt)(w:World)(h:r.Rd w p)(hl:zaR p)(hk:p.k=1):Calls Tryz.prog 41 #[.agg (xR r)] w (RetS w (spL p) (spK p)):=by
 have RA:=xh h
 have HL:Hid (zaR p):=hl
 have HK:=xh hk
 have hL:(Instr.lookup 107 (.map (some (w.heap.size+1+1))) (xI r.k) true).run Tryz.prog ((((w.alloc (.cells (xR r) 50)).alloc (.cells (xR r) 50)).alloc (.map (ent4 (xW 75 (w.heap.size+1)) (xW 77 (w.heap.size+1)) (xW 79 (w.heap.size+1)) (xW 81 (w.heap.size+1))) 4)).drew)=.ok (.tuple #[(xW 75 (w.heap.size+1)),.bool true]) ((((w.alloc (.cells (xR r) 50)).alloc (.cells (xR r) 50)).alloc (.map (ent4 (xW 75 (w.heap.size+1)) (xW 77 (w.heap.size+1)) (xW 79 (w.heap.size+1)) (xW 81 (w.heap.size+1))) 4)).drew):=zbH zco zch _ (ent4 (xW 75 (w.heap.size+1)) (xW 77 (w.heap.size+1)) (xW 79 (w.heap.size+1)) (xW 81 (w.heap.size+1))) 4 r.k _ (w.heap.size+1+1) 0 (show((((w.alloc (.cells (xR r) 50)).alloc (.cells (xR r) 50)).alloc (.map (ent4 (xW 75 (w.heap.size+1)) (xW 77 (w.heap.size+1)) (xW 79 (w.heap.size+1)) (xW 81 (w.heap.size+1))) 4))).heap[w.heap.size+1+1]? =some _ from zcK _ _ _ (by simp)) (by rw[h.k,hk];exact zoT _ _ _ _)
 have OA:=xh (zac w r 50 w.heap.size rfl)
 have OB:Hid (OwnT ((((w.alloc (.cells (xR r) 50)).alloc (.cells (xR r) 50)).alloc (.map (ent4 (xW 75 (w.heap.size+1)) (xW 77 (w.heap.size+1)) (xW 79 (w.heap.size+1)) (xW 81 (w.heap.size+1))) 4)).drew) (w.heap.size+1) r):=show OwnT ((((w.alloc (.cells (xR r) 50)).alloc (.cells (xR r) 50)).alloc (.map (ent4 (xW 75 (w.heap.size+1)) (xW 77 (w.heap.size+1)) (xW 79 (w.heap.size+1)) (xW 81 (w.heap.size+1))) 4))) (w.heap.size+1) r from(zac (w.alloc (.cells (xR r) 50)) r 50 (w.heap.size+1) (by simp)).below (xr.alloc xl _)
 have OA2:Hid (OwnT ((((w.alloc (.cells (xR r) 50)).alloc (.cells (xR r) 50)).alloc (.map (ent4 (xW 75 (w.heap.size+1)) (xW 77 (w.heap.size+1)) (xW 79 (w.heap.size+1)) (xW 81 (w.heap.size+1))) 4)).drew) w.heap.size r):=show OwnT ((((w.alloc (.cells (xR r) 50)).alloc (.cells (xR r) 50)).alloc (.map (ent4 (xW 75 (w.heap.size+1)) (xW 77 (w.heap.size+1)) (xW 79 (w.heap.size+1)) (xW 81 (w.heap.size+1))) 4))) w.heap.size r from(OA.out.below (xr.alloc xl _)).below (xr.alloc xl _)
 have HB2:Hid (Below w.heap.size w ((((w.alloc (.cells (xR r) 50)).alloc (.cells (xR r) 50)).alloc (.map (ent4 (xW 75 (w.heap.size+1)) (xW 77 (w.heap.size+1)) (xW 79 (w.heap.size+1)) (xW 81 (w.heap.size+1))) 4)).drew)):=(((xr.alloc xl _).alloc (by simp) _).alloc (by simp;omega) _).drew
 have RB2:=xh (h.below HB2.out)
 clear h hl hk
 have cS:=zcz r (w.alloc (.cells (xR r) 50)).drew
 have hs1:(w.alloc (.cells (xR r) 50)).drew.heap.size=w.heap.size+1:=by simp
 rw[hs1]at cS
 clear hs1
 obtain⟨⟨u0,u1,u2,u3,u4,u5,u6,u7,u8,u9,u10⟩,-⟩:=OA.out
 go_enter Tryz.func41,Tryz.ntmps41
 go_wp2_with fail
 go_region_with (go_at_call 63;refine cS.mono ?_;rintro e w9 ⟨rfl,rfl⟩;clear u0 u1 u2 u3 u4 u5 u6 u7 u8 u9 u10;obtain⟨⟨u0,u1,u2,u3,u4,u5,u6,u7,u8,u9,u10⟩,-⟩:=OA2.out)
 all_goals
  go_wp2_with fail
  clear hL cS u0 u1 u2 u3 u4 u5 u6 u7 u8 u9 u10
  generalize ((((w.alloc (.cells (xR r) 50)).alloc (.cells (xR r) 50)).alloc (.map (ent4 (xW 75 (w.heap.size+1)) (xW 77 (w.heap.size+1)) (xW 79 (w.heap.size+1)) (xW 81 (w.heap.size+1))) 4)).drew)=V at*
  refine(zea r p _ RB2.out).mono ?_
  rintro e V1 ⟨rfl,hb⟩
  have OB3:=xh (OB.out.below hb)
  have RB3:=xh (RB2.out.below hb)
  have HB3:=xh (HB2.out.trans (hb.mono HB2.out.size))
  clear hb
  by_cases hal:p.Alone
  ·rw[decide_eq_true hal]
   have HE:=xh (zpN RA.out HK.out hal)
   clear hal
   go_wp2_with fail
   refine(gsp1 (w.heap.size+1) r p V1 OB3.out RB3.out HL.out).mono ?_
   rintro e V2 ⟨⟨v9,rfl,ho⟩,hb⟩
   obtain⟨a9,c9,rfl⟩:=zap ho
   have HO:=xh (zbs ho HB3.out.size)
   have HB4:=xh (HB3.out.trans (hb.mono HB3.out.size))
   clear ho hb
   go_wp2_with fail
   go_ret2
   rw[HE.out.1,HE.out.2]
   exact⟨⟨_,rfl,HO.out⟩,HB4.out⟩
  ·rw[decide_eq_false hal]
   have HN:Hid (¬p.Ok):=fun h=>hal (zeb h)
   clear hal
   go_wp2_with fail
   go_ret2
   exact zeN HN.out HB3.out
theorem znz (r:RPt)(p:Pt)(w:World)(h:r.Rd w p)(hl:zaR p)(hk:p.k=2):Calls Tryz.prog 41 #[.agg (xR r)] w (RetS w (spL p) (spK p)):=by
 have RA:=xh h
 have HL:Hid (zaR p):=hl
 have HK:=xh hk
 have hL:(Instr.lookup 107 (.map (some (w.heap.size+1+1))) (xI r.k) true).run Tryz.prog ((((w.alloc (.cells (xR r) 50)).alloc (.cells (xR r) 50)).alloc (.map (ent4 (xW 75 (w.heap.size+1)) (xW 77 (w.heap.size+1)) (xW 79 (w.heap.size+1)) (xW 81 (w.heap.size+1))) 4)).drew)=.ok (.tuple #[(xW 77 (w.heap.size+1)),.bool true]) ((((w.alloc (.cells (xR r) 50)).alloc (.cells (xR r) 50)).alloc (.map (ent4 (xW 75 (w.heap.size+1)) (xW 77 (w.heap.size+1)) (xW 79 (w.heap.size+1)) (xW 81 (w.heap.size+1))) 4)).drew):=zbH zco zch _ (ent4 (xW 75 (w.heap.size+1)) (xW 77 (w.heap.size+1)) (xW 79 (w.heap.size+1)) (xW 81 (w.heap.size+1))) 4 r.k _ (w.heap.size+1+1) 1 (show((((w.alloc (.cells (xR r) 50)).alloc (.cells (xR r) 50)).alloc (.map (ent4 (xW 75 (w.heap.size+1)) (xW 77 (w.heap.size+1)) (xW 79 (w.heap.size+1)) (xW 81 (w.heap.size+1))) 4))).heap[w.heap.size+1+1]? =some _ from zcK _ _ _ (by simp)) (by rw[h.k,hk];exact zpc _ _ _ _)
 have OA:=xh (zac w r 50 w.heap.size rfl)
 have OB:Hid (OwnT ((((w.alloc (.cells (xR r) 50)).alloc (.cells (xR r) 50)).alloc (.map (ent4 (xW 75 (w.heap.size+1)) (xW 77 (w.heap.size+1)) (xW 79 (w.heap.size+1)) (xW 81 (w.heap.size+1))) 4)).drew) (w.heap.size+1) r):=show OwnT ((((w.alloc (.cells (xR r) 50)).alloc (.cells (xR r) 50)).alloc (.map (ent4 (xW 75 (w.heap.size+1)) (xW 77 (w.heap.size+1)) (xW 79 (w.heap.size+1)) (xW 81 (w.heap.size+1))) 4))) (w.heap.size+1) r from(zac (w.alloc (.cells (xR r) 50)) r 50 (w.heap.size+1) (by simp)).below (xr.alloc xl _)
 have OA2:Hid (OwnT ((((w.alloc (.cells (xR r) 50)).alloc (.cells (xR r) 50)).alloc (.map (ent4 (xW 75 (w.heap.size+1)) (xW 77 (w.heap.size+1)) (xW 79 (w.heap.size+1)) (xW 81 (w.heap.size+1))) 4)).drew) w.heap.size r):=show OwnT ((((w.alloc (.cells (xR r) 50)).alloc (.cells (xR r) 50)).alloc (.map (ent4 (xW 75 (w.heap.size+1)) (xW 77 (w.heap.size+1)) (xW 79 (w.heap.size+1)) (xW 81 (w.heap.size+1))) 4))) w.heap.size r from(OA.out.below (xr.alloc xl _)).below (xr.alloc xl _)
 have HB2:Hid (Below w.heap.size w ((((w.alloc (.cells (xR r) 50)).alloc (.cells (xR r) 50)).alloc (.map (ent4 (xW 75 (w.heap.size+1)) (xW 77 (w.heap.size+1)) (xW 79 (w.heap.size+1)) (xW 81 (w.heap.size+1))) 4)).drew)):=(((xr.alloc xl _).alloc (by simp) _).alloc (by simp;omega) _).drew
 have RB2:=xh (h.below HB2.out)
 clear h hl hk
 have cS:=zcz r (w.alloc (.cells (xR r) 50)).drew
 have hs1:(w.alloc (.cells (xR r) 50)).drew.heap.size=w.heap.size+1:=by simp
 rw[hs1]at cS
 clear hs1
 obtain⟨⟨u0,u1,u2,u3,u4,u5,u6,u7,u8,u9,u10⟩,-⟩:=OA.out
 go_enter Tryz.func41,Tryz.ntmps41
 go_wp2_with fail
 go_region_with (go_at_call 63;refine cS.mono ?_;rintro e w9 ⟨rfl,rfl⟩;clear u0 u1 u2 u3 u4 u5 u6 u7 u8 u9 u10;obtain⟨⟨u0,u1,u2,u3,u4,u5,u6,u7,u8,u9,u10⟩,-⟩:=OA2.out)
 all_goals
  go_wp2_with fail
  clear hL cS u0 u1 u2 u3 u4 u5 u6 u7 u8 u9 u10
  generalize ((((w.alloc (.cells (xR r) 50)).alloc (.cells (xR r) 50)).alloc (.map (ent4 (xW 75 (w.heap.size+1)) (xW 77 (w.heap.size+1)) (xW 79 (w.heap.size+1)) (xW 81 (w.heap.size+1))) 4)).drew)=V at*
  refine(zea r p _ RB2.out).mono ?_
  rintro e V1 ⟨rfl,hb⟩
  have OB3:=xh (OB.out.below hb)
  have RB3:=xh (RB2.out.below hb)
  have HB3:=xh (HB2.out.trans (hb.mono HB2.out.size))
  clear hb
  by_cases hal:p.Alone
  ·rw[decide_eq_true hal]
   have HE:=xh (zpE RA.out HK.out hal)
   clear hal
   go_wp2_with fail
   refine(gsp2 (w.heap.size+1) r p V1 OB3.out RB3.out HL.out).mono ?_
   rintro e V2 ⟨⟨v9,rfl,ho⟩,hb⟩
   obtain⟨a9,c9,rfl⟩:=zap ho
   have HO:=xh (zbs ho HB3.out.size)
   have HB4:=xh (HB3.out.trans (hb.mono HB3.out.size))
   clear ho hb
   go_wp2_with fail
   go_ret2
   rw[HE.out.1,HE.out.2]
   exact⟨⟨_,rfl,HO.out⟩,HB4.out⟩
  ·rw[decide_eq_false hal]
   have HN:Hid (¬p.Ok):=fun h=>hal (zeb h)
   clear hal
   go_wp2_with fail
   go_ret2
   exact zeN HN.out HB3.out
theorem zof (r:RPt)(p:Pt)(w:World)(h:r.Rd w p)(hl:zaR p)(hk:p.k=3):Calls Tryz.prog 41 #[.agg (xR r)] w (RetS w (spL p) (spK p)):=by
 have RA:=xh h
 have HL:Hid (zaR p):=hl
 have HK:=xh hk
 have hL:(Instr.lookup 107 (.map (some (w.heap.size+1+1))) (xI r.k) true).run Tryz.prog ((((w.alloc (.cells (xR r) 50)).alloc (.cells (xR r) 50)).alloc (.map (ent4 (xW 75 (w.heap.size+1)) (xW 77 (w.heap.size+1)) (xW 79 (w.heap.size+1)) (xW 81 (w.heap.size+1))) 4)).drew)=.ok (.tuple #[(xW 79 (w.heap.size+1)),.bool true]) ((((w.alloc (.cells (xR r) 50)).alloc (.cells (xR r) 50)).alloc (.map (ent4 (xW 75 (w.heap.size+1)) (xW 77 (w.heap.size+1)) (xW 79 (w.heap.size+1)) (xW 81 (w.heap.size+1))) 4)).drew):=zbH zco zch _ (ent4 (xW 75 (w.heap.size+1)) (xW 77 (w.heap.size+1)) (xW 79 (w.heap.size+1)) (xW 81 (w.heap.size+1))) 4 r.k _ (w.heap.size+1+1) 2 (show((((w.alloc (.cells (xR r) 50)).alloc (.cells (xR r) 50)).alloc (.map (ent4 (xW 75 (w.heap.size+1)) (xW 77 (w.heap.size+1)) (xW 79 (w.heap.size+1)) (xW 81 (w.heap.size+1))) 4))).heap[w.heap.size+1+1]? =some _ from zcK _ _ _ (by simp)) (by rw[h.k,hk];exact zpi _ _ _ _)
 have OA:=xh (zac w r 50 w.heap.size rfl)
 have OB:Hid (OwnT ((((w.alloc (.cells (xR r) 50)).alloc (.cells (xR r) 50)).alloc (.map (ent4 (xW 75 (w.heap.size+1)) (xW 77 (w.heap.size+1)) (xW 79 (w.heap.size+1)) (xW 81 (w.heap.size+1))) 4)).drew) (w.heap.size+1) r):=show OwnT ((((w.alloc (.cells (xR r) 50)).alloc (.cells (xR r) 50)).alloc (.map (ent4 (xW 75 (w.heap.size+1)) (xW 77 (w.heap.size+1)) (xW 79 (w.heap.size+1)) (xW 81 (w.heap.size+1))) 4))) (w.heap.size+1) r from(zac (w.alloc (.cells (xR r) 50)) r 50 (w.heap.size+1) (by simp)).below (xr.alloc xl _)
 have OA2:Hid (OwnT ((((w.alloc (.cells (xR r) 50)).alloc (.cells (xR r) 50)).alloc (.map (ent4 (xW 75 (w.heap.size+1)) (xW 77 (w.heap.size+1)) (xW 79 (w.heap.size+1)) (xW 81 (w.heap.size+1))) 4)).drew) w.heap.size r):=show OwnT ((((w.alloc (.cells (xR r) 50)).alloc (.cells (xR r) 50)).alloc (.map (ent4 (xW 75 (w.heap.size+1)) (xW 77 (w.heap.size+1)) (xW 79 (w.heap.size+1)) (xW 81 (w.heap.size+1))) 4))) w.heap.size r from(OA.out.below (xr.alloc xl _)).below (xr.alloc xl _)
 have HB2:Hid (Below w.heap.size w ((((w.alloc (.cells (xR r) 50)).alloc (.cells (xR r) 50)).alloc (.map (ent4 (xW 75 (w.heap.size+1)) (xW 77 (w.heap.size+1)) (xW 79 (w.heap.size+1)) (xW 81 (w.heap.size+1))) 4)).drew)):=(((xr.alloc xl _).alloc (by simp) _).alloc (by simp;omega) _).drew
 have RB2:=xh (h.below HB2.out)
 clear h hl hk
 have cS:=zcz r (w.alloc (.cells (xR r) 50)).drew
 have hs1:(w.alloc (.cells (xR r) 50)).drew.heap.size=w.heap.size+1:=by simp
 rw[hs1]at cS
 clear hs1
 obtain⟨⟨u0,u1,u2,u3,u4,u5,u6,u7,u8,u9,u10⟩,-⟩:=OA.out
 go_enter Tryz.func41,Tryz.ntmps41
 go_wp2_with fail
 go_region_with (go_at_call 63;refine cS.mono ?_;rintro e w9 ⟨rfl,rfl⟩;clear u0 u1 u2 u3 u4 u5 u6 u7 u8 u9 u10;obtain⟨⟨u0,u1,u2,u3,u4,u5,u6,u7,u8,u9,u10⟩,-⟩:=OA2.out)
 all_goals
  go_wp2_with fail
  clear hL cS u0 u1 u2 u3 u4 u5 u6 u7 u8 u9 u10
  generalize ((((w.alloc (.cells (xR r) 50)).alloc (.cells (xR r) 50)).alloc (.map (ent4 (xW 75 (w.heap.size+1)) (xW 77 (w.heap.size+1)) (xW 79 (w.heap.size+1)) (xW 81 (w.heap.size+1))) 4)).drew)=V at*
  refine(zea r p _ RB2.out).mono ?_
  rintro e V1 ⟨rfl,hb⟩
  have OB3:=xh (OB.out.below hb)
  have RB3:=xh (RB2.out.below hb)
  have HB3:=xh (HB2.out.trans (hb.mono HB2.out.size))
  clear hb
  by_cases hal:p.Alone
  ·rw[decide_eq_true hal]
   have HE:=xh (zpZ RA.out HK.out hal)
   clear hal
   go_wp2_with fail
   refine(gsp3 (w.heap.size+1) r p V1 OB3.out RB3.out HL.out).mono ?_
   rintro e V2 ⟨⟨v9,rfl,ho⟩,hb⟩
   obtain⟨a9,c9,rfl⟩:=zap ho
   have HO:=xh (zbs ho HB3.out.size)
   have HB4:=xh (HB3.out.trans (hb.mono HB3.out.size))
   clear ho hb
   go_wp2_with fail
   go_ret2
   rw[HE.out.1,HE.out.2]
   exact⟨⟨_,rfl,HO.out⟩,HB4.out⟩
  ·rw[decide_eq_false hal]
   have HN:Hid (¬p.Ok):=fun h=>hal (zeb h)
   clear hal
   go_wp2_with fail
   go_ret2
   exact zeN HN.out HB3.out
theorem zoh (r:RPt)(p:Pt)(w:World)(h:r.Rd w p)(hl:zaR p)(hk:p.k=4):Calls Tryz.prog 41 #[.agg (xR r)] w (RetS w (spL p) (spK p)):=by
 have RA:=xh h
 have HL:Hid (zaR p):=hl
 have HK:=xh hk
 have hL:(Instr.lookup 107 (.map (some (w.heap.size+1+1))) (xI r.k) true).run Tryz.prog ((((w.alloc (.cells (xR r) 50)).alloc (.cells (xR r) 50)).alloc (.map (ent4 (xW 75 (w.heap.size+1)) (xW 77 (w.heap.size+1)) (xW 79 (w.heap.size+1)) (xW 81 (w.heap.size+1))) 4)).drew)=.ok (.tuple #[(xW 81 (w.heap.size+1)),.bool true]) ((((w.alloc (.cells (xR r) 50)).alloc (.cells (xR r) 50)).alloc (.map (ent4 (xW 75 (w.heap.size+1)) (xW 77 (w.heap.size+1)) (xW 79 (w.heap.size+1)) (xW 81 (w.heap.size+1))) 4)).drew):=zbH zco zch _ (ent4 (xW 75 (w.heap.size+1)) (xW 77 (w.heap.size+1)) (xW 79 (w.heap.size+1)) (xW 81 (w.heap.size+1))) 4 r.k _ (w.heap.size+1+1) 3 (show((((w.alloc (.cells (xR r) 50)).alloc (.cells (xR r) 50)).alloc (.map (ent4 (xW 75 (w.heap.size+1)) (xW 77 (w.heap.size+1)) (xW 79 (w.heap.size+1)) (xW 81 (w.heap.size+1))) 4))).heap[w.heap.size+1+1]? =some _ from zcK _ _ _ (by simp)) (by rw[h.k,hk];exact zo7 _ _ _ _)
 have OA:=xh (zac w r 50 w.heap.size rfl)
 have OB:Hid (OwnT ((((w.alloc (.cells (xR r) 50)).alloc (.cells (xR r) 50)).alloc (.map (ent4 (xW 75 (w.heap.size+1)) (xW 77 (w.heap.size+1)) (xW 79 (w.heap.size+1)) (xW 81 (w.heap.size+1))) 4)).drew) (w.heap.size+1) r):=show OwnT ((((w.alloc (.cells (xR r) 50)).alloc (.cells (xR r) 50)).alloc (.map (ent4 (xW 75 (w.heap.size+1)) (xW 77 (w.heap.size+1)) (xW 79 (w.heap.size+1)) (xW 81 (w.heap.size+1))) 4))) (w.heap.size+1) r from(zac (w.alloc (.cells (xR r) 50)) r 50 (w.heap.size+1) (by simp)).below (xr.alloc xl _)
 have OA2:Hid (OwnT ((((w.alloc (.cells (xR r) 50)).alloc (.cells (xR r) 50)).alloc (.map (ent4 (xW 75 (w.heap.size+1)) (xW 77 (w.heap.size+1)) (xW 79 (w.heap.size+1)) (xW 81 (w.heap.size+1))) 4)).drew) w.heap.size r):=show OwnT ((((w.alloc (.cells (xR r) 50)).alloc (.cells (xR r) 50)).alloc (.map (ent4 (xW 75 (w.heap.size+1)) (xW 77 (w.heap.size+1)) (xW 79 (w.heap.size+1)) (xW 81 (w.heap.size+1))) 4))) w.heap.size r from(OA.out.below (xr.alloc xl _)).below (xr.alloc xl _)
 have HB2:Hid (Below w.heap.size w ((((w.alloc (.cells (xR r) 50)).alloc (.cells (xR r) 50)).alloc (.map (ent4 (xW 75 (w.heap.size+1)) (xW 77 (w.heap.size+1)) (xW 79 (w.heap.size+1)) (xW 81 (w.heap.size+1))) 4)).drew)):=(((xr.alloc xl _).alloc (by simp) _).alloc (by simp;omega) _).drew
 have RB2:=xh (h.below HB2.out)
 clear h hl hk
 have cS:=zcz r (w.alloc (.cells (xR r) 50)).drew
 have hs1:(w.alloc (.cells (xR r) 50)).drew.heap.size=w.heap.size+1:=by simp
 rw[hs1]at cS
 clear hs1
 obtain⟨⟨u0,u1,u2,u3,u4,u5,u6,u7,u8,u9,u10⟩,-⟩:=OA.out
 go_enter Tryz.func41,Tryz.ntmps41
 go_wp2_with fail
 go_region_with (go_at_call 63;refine cS.mono ?_;rintro e w9 ⟨rfl,rfl⟩;clear u0 u1 u2 u3 u4 u5 u6 u7 u8 u9 u10;obtain⟨⟨u0,u1,u2,u3,u4,u5,u6,u7,u8,u9,u10⟩,-⟩:=OA2.out)
 all_goals
  go_wp2_with fail
  clear hL cS u0 u1 u2 u3 u4 u5 u6 u7 u8 u9 u10
  generalize ((((w.alloc (.cells (xR r) 50)).alloc (.cells (xR r) 50)).alloc (.map (ent4 (xW 75 (w.heap.size+1)) (xW 77 (w.heap.size+1)) (xW 79 (w.heap.size+1)) (xW 81 (w.heap.size+1))) 4)).drew)=V at*
  refine(zea r p _ RB2.out).mono ?_
  rintro e V1 ⟨rfl,hb⟩
  have OB3:=xh (OB.out.below hb)
  have RB3:=xh (RB2.out.below hb)
  have HB3:=xh (HB2.out.trans (hb.mono HB2.out.size))
  clear hb
  by_cases hal:p.Alone
  ·rw[decide_eq_true hal]
   have HE:=xh (zpH RA.out HK.out hal)
   clear hal
   go_wp2_with fail
   refine(gsp4 (w.heap.size+1) r p V1 OB3.out RB3.out HL.out).mono ?_
   rintro e V2 ⟨⟨v9,rfl,ho⟩,hb⟩
   obtain⟨a9,c9,rfl⟩:=zap ho
   have HO:=xh (zbs ho HB3.out.size)
   have HB4:=xh (HB3.out.trans (hb.mono HB3.out.size))
   clear ho hb
   go_wp2_with fail
   go_ret2
   rw[HE.out.1,HE.out.2]
   exact⟨⟨_,rfl,HO.out⟩,HB4.out⟩
  ·rw[decide_eq_false hal]
   have HN:Hid (¬p.Ok):=fun h=>hal (zeb h)
   clear hal
   go_wp2_with fail
   go_ret2
   exact zeN HN.out HB3.out
theorem zmS (r:RPt)(p:Pt)(w:World)(h:r.Rd w p)(hl:zaR p)(hk:p.k≠1∧p.k≠2∧p.k≠3∧p.k≠4):Calls Tryz.prog 41 #[.agg (xR r)] w (RetS w (spL p) (spK p)):=by
 have RA:=xh h
 have HL:Hid (zaR p):=hl
 have HK:=xh hk
 have hL:(Instr.lookup 107 (.map (some (w.heap.size+1+1))) (xI r.k) true).run Tryz.prog ((((w.alloc (.cells (xR r) 50)).alloc (.cells (xR r) 50)).alloc (.map (ent4 (xW 75 (w.heap.size+1)) (xW 77 (w.heap.size+1)) (xW 79 (w.heap.size+1)) (xW 81 (w.heap.size+1))) 4)).drew)=.ok (.tuple #[.nilFunc,.bool false]) ((((w.alloc (.cells (xR r) 50)).alloc (.cells (xR r) 50)).alloc (.map (ent4 (xW 75 (w.heap.size+1)) (xW 77 (w.heap.size+1)) (xW 79 (w.heap.size+1)) (xW 81 (w.heap.size+1))) 4)).drew):=zd2 zco zch _ (ent4 (xW 75 (w.heap.size+1)) (xW 77 (w.heap.size+1)) (xW 79 (w.heap.size+1)) (xW 81 (w.heap.size+1))) 4 r.k _ (w.heap.size+1+1) (show((((w.alloc (.cells (xR r) 50)).alloc (.cells (xR r) 50)).alloc (.map (ent4 (xW 75 (w.heap.size+1)) (xW 77 (w.heap.size+1)) (xW 79 (w.heap.size+1)) (xW 81 (w.heap.size+1))) 4))).heap[w.heap.size+1+1]? =some _ from zcK _ _ _ (by simp)) (by rw[h.k];exact zoz _ _ _ _ _ hk) (zpa _)
 have OA:=xh (zac w r 50 w.heap.size rfl)
 have OB:Hid (OwnT ((((w.alloc (.cells (xR r) 50)).alloc (.cells (xR r) 50)).alloc (.map (ent4 (xW 75 (w.heap.size+1)) (xW 77 (w.heap.size+1)) (xW 79 (w.heap.size+1)) (xW 81 (w.heap.size+1))) 4)).drew) (w.heap.size+1) r):=show OwnT ((((w.alloc (.cells (xR r) 50)).alloc (.cells (xR r) 50)).alloc (.map (ent4 (xW 75 (w.heap.size+1)) (xW 77 (w.heap.size+1)) (xW 79 (w.heap.size+1)) (xW 81 (w.heap.size+1))) 4))) (w.heap.size+1) r from(zac (w.alloc (.cells (xR r) 50)) r 50 (w.heap.size+1) (by simp)).below (xr.alloc xl _)
 have OA2:Hid (OwnT ((((w.alloc (.cells (xR r) 50)).alloc (.cells (xR r) 50)).alloc (.map (ent4 (xW 75 (w.heap.size+1)) (xW 77 (w.heap.size+1)) (xW 79 (w.heap.size+1)) (xW 81 (w.heap.size+1))) 4)).drew) w.heap.size r):=show OwnT ((((w.alloc (.cells (xR r) 50)).alloc (.cells (xR r) 50)).alloc (.map (ent4 (xW 75 (w.heap.size+1)) (xW 77 (w.heap.size+1)) (xW 79 (w.heap.size+1)) (xW 81 (w.heap.size+1))) 4))) w.heap.size r from(OA.out.below (xr.alloc xl _)).below (xr.alloc xl _)
 have HB2:Hid (Below w.heap.size w ((((w.alloc (.cells (xR r) 50)).alloc (.cells (xR r) 50)).alloc (.map (ent4 (xW 75 (w.heap.size+1)) (xW 77 (w.heap.size+1)) (xW 79 (w.heap.size+1)) (xW 81 (w.heap.size+1))) 4)).drew)):=(((xr.alloc xl _).alloc (by simp) _).alloc (by simp;omega) _).drew
 have RB2:=xh (h.below HB2.out)
 clear h hl hk
 have cS:=zcz r (w.alloc (.cells (xR r) 50)).drew
 have hs1:(w.alloc (.cells (xR r) 50)).drew.heap.size=w.heap.size+1:=by simp
 rw[hs1]at cS
 clear hs1
 obtain⟨⟨u0,u1,u2,u3,u4,u5,u6,u7,u8,u9,u10⟩,-⟩:=OA.out
 go_enter Tryz.func41,Tryz.ntmps41
 go_wp2_with fail
 go_region_with (go_at_call 63;refine cS.mono ?_;rintro e w9 ⟨rfl,rfl⟩;clear u0 u1 u2 u3 u4 u5 u6 u7 u8 u9 u10;obtain⟨⟨u0,u1,u2,u3,u4,u5,u6,u7,u8,u9,u10⟩,-⟩:=OA2.out)
 all_goals
  go_wp2_with fail
  clear hL cS u0 u1 u2 u3 u4 u5 u6 u7 u8 u9 u10
  go_ret2
  exact zeN (zps HK.out) HB2.out
theorem zik (r:RPt)(p:Pt)(w:World)(h:r.Rd w p)(hl:zaR p):Calls Tryz.prog 41 #[.agg (xR r)] w (RetS w (spL p) (spK p)):=by
 by_cases h1:p.k=1
 ·exact zm3 r p w h hl h1
 by_cases h2:p.k=2
 ·exact znz r p w h hl h2
 by_cases h3:p.k=3
 ·exact zof r p w h hl h3
 by_cases h4:p.k=4
 ·exact zoh r p w h hl h4
 exact zmS r p w h hl ⟨h1,h2,h3,h4⟩
end Go.Proofs.YtjghebcnmoojmaaGreat
