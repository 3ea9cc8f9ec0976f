/- Heights: -/
import Derived.Test.YtjghebcnmoojmaaGreatV03
import Derived.BigQuiet
import Derived.Deep.QuietTactic
import Derived.Lib.QuietBelow
set_option maxRecDepth 100000
set_option maxHeartbeats 32000000
namespace Go.Proofs.YtjghebcnmoojmaaGreat
open Go.RowKit MX
section
open Go.Sort
theorem zaN {p:Prop}[Decidable p](h:¬p):Ending.returned (.bool false)=.returned (.bool (decide p)):=by rw[decide_eq_false h]
theorem zbR {p:Prop}[Decidable p](h:p):Ending.returned (.bool true)=.returned (.bool (decide p)):=by rw[decide_eq_true h]
theorem zb3 {q p:Prop}[Decidable q][Decidable p](h:q↔p):Ending.returned (.bool (decide q))=.returned (.bool (decide p)):=by
 congr 2;exact decide_eq_decide.2 h
def zaC (i:Int):Prop:=0≤i∧i<64
instance (i:Int):Decidable (zaC i):=by unfold zaC;infer_instance
theorem zbD (i:Int)(w:World):
  Calls Tryz.prog 157 #[xI i] w fun e w'=>e=.returned (.bool (decide (zaC i)))∧w=w':=by
 go_enter Tryz.func157,Tryz.ntmps157
 go_wp2
 all_goals
  go_ret
  first
   | exact⟨zaN (by unfold zaC;omega),rfl⟩
   | exact⟨zb3 (by unfold zaC;omega),rfl⟩
def zcd (t o r d:Int):Prop:=0≤t∧t≤4611686018427387903∧zaC o∧(r=0∨r=1)∧ -1099511627776≤d∧d≤1099511627776
instance (t o r d:Int):Decidable (zcd t o r d):=by unfold zcd;infer_instance
theorem zfO (n:Bool)(t o r d i:Int)(w:World):
  Calls Tryz.prog 159 #[.agg (xB n t o r d i)] w fun e w'=>e=.returned (.bool (decide (zcd t o r d)))∧Below w.heap.size w w':=by
 by_cases h1:zaC o
 ·have ho:decide (zaC o)=true:=decide_eq_true h1
  have H1:=xh h1
  clear h1
  go_enter Tryz.func159,Tryz.ntmps159
  go_wp2_with (go_at_call 157;refine(zbD _ _).mono ?_;rintro e w' ⟨rfl,rfl⟩;rw[ho])
  all_goals
   go_ret
   have h1:=H1.out
   first
    | exact⟨zaN (by unfold zcd zaC;omega),xr.alloc xl _⟩
    | exact⟨zb3 (by unfold zcd zaC;unfold zaC at h1;omega),xr.alloc xl _⟩
 ·have ho:decide (zaC o)=false:=decide_eq_false h1
  have H1:=xh h1
  clear h1
  go_enter Tryz.func159,Tryz.ntmps159
  go_wp2_with (go_at_call 157;refine(zbD _ _).mono ?_;rintro e w' ⟨rfl,rfl⟩;rw[ho])
  all_goals
   go_ret
   exact⟨zaN (fun h=>H1.out h.2.2.1),xr.alloc xl _⟩
def zeX (t o r d:Int):Prop:=t=0∧o=0∧r=0∧d=0
instance (t o r d:Int):Decidable (zeX t o r d):=by unfold zeX;infer_instance
def HtOk (n:Bool)(t o r d i:Int):Prop:=zaC i∧(n=true∧zeX t o r d∨n=false∧zcd t o r d)
instance (n:Bool)(t o r d i:Int):Decidable (HtOk n t o r d i):=by unfold HtOk;infer_instance
theorem zei (i:Int)(w:World):
  Calls Tryz.prog 158 #[xI i] w fun e w'=>e=.returned (.agg (xB true 0 0 0 0 i))∧Below w.heap.size w w':=by
 go_enter Tryz.func158,Tryz.ntmps158
 go_wp2
 refine bodyPost_ret (v:=.agg (xB true 0 0 0 0 i)) (by simp[results,Tryz.results158,go_sem]) rfl ⟨rfl,xr.alloc xl _⟩
def Cells6 (w:World)(b:Nat)(n:Bool)(t o r d i:Int):Prop:=
 w.cell? (xQ b 0)=some (.bool n)∧w.cell? (xQ b 1)=xJ t∧w.cell? (xQ b 2)=xJ o∧
 w.cell? (xQ b 3)=xJ r∧w.cell? (xQ b 4)=xJ d∧w.cell? (xQ b 5)=xJ i
theorem zaU (w:World)(n:Bool)(t o r d i:Int)(T:TypeId):Cells6 (w.alloc (.cells (xB n t o r d i) T)) w.heap.size n t o r d i:=by
 simp[Cells6]
theorem Cells6.below {w w':World}{b:Nat}{n:Bool}{t o r d i:Int}(h:Cells6 w b n t o r d i)(hb:Below w.heap.size w w'):Cells6 w' b n t o r d i:=by
 obtain⟨h0,h1,h2,h3,h4,h5⟩:=h
 have k:∀{a:Addr} {v:Value},w.cell? a=some v→w'.cell? a=some v:=fun h=>by rw[hb.cell (World.block_lt_of_cell? w _ h)];exact h
 exact⟨k h0,k h1,k h2,k h3,k h4,k h5⟩
theorem Cells6.regrown {w:World}{b:Nat}{n:Bool}{t o r d i:Int}(h:Cells6 w b n t o r d i):
  (∀D os,(grow (redrawn w D) os).cell? (xQ b 0)=some (.bool n))∧(∀D os,(grow (redrawn w D) os).cell? (xQ b 1)=xJ t)∧
  (∀D os,(grow (redrawn w D) os).cell? (xQ b 2)=xJ o)∧(∀D os,(grow (redrawn w D) os).cell? (xQ b 3)=xJ r)∧
  (∀D os,(grow (redrawn w D) os).cell? (xQ b 4)=xJ d)∧(∀D os,(grow (redrawn w D) os).cell? (xQ b 5)=xJ i):=
 ⟨cell_regrown h.1,cell_regrown h.2.1,cell_regrown h.2.2.1,cell_regrown h.2.2.2.1,cell_regrown h.2.2.2.2.1,cell_regrown h.2.2.2.2.2⟩
def chk (n:Bool)(t o r d i:Int):Int:=if HtOk n t o r d i then 0 else 1
theorem zb9 {n:Bool}{t o r d i:Int}(h:HtOk n t o r d i):chk n t o r d i=0:=by unfold chk;rw[if_pos h]
theorem zc0 {n:Bool}{t o r d i:Int}(h:¬HtOk n t o r d i):chk n t o r d i=1:=by unfold chk;rw[if_neg h]
theorem zbe (n:Bool)(t o r d i:Int)(w:World):
    Calls Tryz.prog 151 #[.agg (xB n t o r d i)] w fun e w'=>e=.returned (xI (chk n t o r d i))∧Below w.heap.size w w':=by
  have E1:=zcG
  have E2:=zpO
  by_cases h1:zaC i
  · have ho:decide (zaC i)=true:=decide_eq_true h1
    cases n with
    | true=>
      cases hq:eqH true t o r d i true 0 0 0 0 i with
      | true=>
        rw[zb9 ⟨h1,.inl ⟨rfl,(zbC.1 hq).2.1,(zbC.1 hq).2.2.1,(zbC.1 hq).2.2.2.1,(zbC.1 hq).2.2.2.2.1⟩⟩]
        go_enter Tryz.func151,Tryz.ntmps151
        go_wp2_with (go_at_call 157;refine(zbD _ _).mono ?_;rintro e w' ⟨rfl,rfl⟩;rw[ho])
        have hbel:Below w.heap.size w (w.alloc (.cells (xB true t o r d i) 59)):=xr.alloc xl _
        have c:=zaU w true t o r d i 59
        generalize w.alloc (.cells (xB true t o r d i) 59)=W at*
        obtain⟨k0,k1,k2,k3,k4,k5⟩:=c.regrown
        clear c
        refine wp_region_quiet_below (by kernel_rfl) (by kernel_rfl) ?_
        repeat (quiet_step (first|exact Calls.regrown_of (zei _ _)))
        refine wpQuiet_nil ?_
        rintro _ ⟨⟨dq,osq⟩,rfl⟩
        have hb2:=hbel.trans ((below_regrown W dq osq).mono hbel.size)
        go_wp2_with fail
        go_ret
        exact⟨rfl,hb2⟩
      | false=>
        rw[zc0 (fun h=>by
          rcases h.2 with ⟨-,rfl,rfl,rfl,rfl⟩|⟨h,-⟩
          · rw[zbC.2 ⟨rfl,rfl,rfl,rfl,rfl,rfl⟩]at hq;cases hq
          · cases h)]
        go_enter Tryz.func151,Tryz.ntmps151
        go_wp2_with (go_at_call 157;refine(zbD _ _).mono ?_;rintro e w' ⟨rfl,rfl⟩;rw[ho])
        have hbel:Below w.heap.size w (w.alloc (.cells (xB true t o r d i) 59)):=xr.alloc xl _
        have c:=zaU w true t o r d i 59
        generalize w.alloc (.cells (xB true t o r d i) 59)=W at*
        obtain⟨k0,k1,k2,k3,k4,k5⟩:=c.regrown
        clear c
        refine wp_region_quiet_below (by kernel_rfl) (by kernel_rfl) ?_
        repeat (quiet_step (first|exact Calls.regrown_of (zei _ _)))
        refine wpQuiet_nil ?_
        rintro _ ⟨⟨dq,osq⟩,rfl⟩
        have hb2:=hbel.trans ((below_regrown W dq osq).mono hbel.size)
        go_wp2_with fail
        go_ret
        exact⟨rfl,hb2⟩
    | false=>
      by_cases hr:zcd t o r d
      · have cR:∀W,Calls Tryz.prog 159 #[.agg (xB false t o r d i)] W fun e w'=>e=.returned (.bool true)∧Below W.heap.size W w':=fun W=>by
          rw[←decide_eq_true hr];exact zfO _ _ _ _ _ _ _
        rw[zb9 ⟨h1,.inr ⟨rfl,hr⟩⟩]
        go_enter Tryz.func151,Tryz.ntmps151
        go_wp2_with (go_at_call 157;refine(zbD _ _).mono ?_;rintro e w' ⟨rfl,rfl⟩;rw[ho])
        have hbel:Below w.heap.size w (w.alloc (.cells (xB false t o r d i) 59)):=xr.alloc xl _
        have c:=zaU w false t o r d i 59
        generalize w.alloc (.cells (xB false t o r d i) 59)=W at*
        obtain⟨k0,k1,k2,k3,k4,k5⟩:=c.regrown
        clear c
        refine wp_region_quiet_below (by kernel_rfl) (by kernel_rfl) ?_
        repeat (quiet_step (first|exact Calls.regrown_of (zei _ _)|exact Calls.regrown_of (cR _)))
        refine wpQuiet_nil ?_
        rintro _ ⟨⟨dq,osq⟩,rfl⟩
        have hb2:=hbel.trans ((below_regrown W dq osq).mono hbel.size)
        go_wp2_with fail
        go_ret
        exact⟨rfl,hb2⟩
      · have cR:∀W,Calls Tryz.prog 159 #[.agg (xB false t o r d i)] W fun e w'=>e=.returned (.bool false)∧Below W.heap.size W w':=fun W=>by
          rw[←decide_eq_false hr];exact zfO _ _ _ _ _ _ _
        rw [zc0 (fun h => by rcases h.2 with ⟨h, -⟩ | ⟨-, h⟩; · cases h
                             exact hr h)]
        go_enter Tryz.func151,Tryz.ntmps151
        go_wp2_with (go_at_call 157;refine(zbD _ _).mono ?_;rintro e w' ⟨rfl,rfl⟩;rw[ho])
        have hbel:Below w.heap.size w (w.alloc (.cells (xB false t o r d i) 59)):=xr.alloc xl _
        have c:=zaU w false t o r d i 59
        generalize w.alloc (.cells (xB false t o r d i) 59)=W at*
        obtain⟨k0,k1,k2,k3,k4,k5⟩:=c.regrown
        clear c
        refine wp_region_quiet_below (by kernel_rfl) (by kernel_rfl) ?_
        repeat (quiet_step (first|exact Calls.regrown_of (zei _ _)|exact Calls.regrown_of (cR _)))
        refine wpQuiet_nil ?_
        rintro _ ⟨⟨dq,osq⟩,rfl⟩
        have hb2:=hbel.trans ((below_regrown W dq osq).mono hbel.size)
        go_wp2_with fail
        go_ret
        exact⟨rfl,hb2⟩
  · have ho:decide (zaC i)=false:=decide_eq_false h1
    rw[zc0 (fun h=>h1 h.1)]
    go_enter Tryz.func151,Tryz.ntmps151
    go_wp2_with (go_at_call 157;refine(zbD _ _).mono ?_;rintro e w' ⟨rfl,rfl⟩;rw[ho])
    go_ret
    exact⟨rfl,xr.alloc xl _⟩
def told (n:Bool)(t o r d i:Int):Bool:= !n&&decide (HtOk n t o r d i)
end
end Go.Proofs.YtjghebcnmoojmaaGreat
