/- The program's small functions of package frame: What is wrong of bytes as a whole: Whether a part has something of other kinds than its own: -/
import Derived.Test.YtjghebcnmoojmaaGreatV35
import Derived.Maps.OwnSet
import Derived.BigRegion
set_option maxRecDepth 100000
set_option maxHeartbeats 32000000
namespace Go.Proofs.YtjghebcnmoojmaaGreat
open Go.RowKit MX
theorem zau (n:Int)(Q:Bool)(hQ:Q=true↔0≤n∧n<64)(w:World):
  Calls Tryz.prog 38 #[xI n] w fun e w'=>e=.returned (.bool Q)∧w=w':=by
 by_cases h0:0≤n
 ·by_cases h1:n<64
  ·obtain rfl:Q=true:=hQ.2 ⟨h0,h1⟩
   have d8:decide (0≤n)=true:=decide_eq_true h0
   have d9:decide (n<64)=true:=decide_eq_true h1
   clear hQ
   go_enter Tryz.func38,Tryz.ntmps38
   go_wp2_with fail
   go_ret
   exact⟨rfl,rfl⟩
  ·obtain rfl:Q=false:=by
    cases Q with
    | false=>rfl
    | true=>exact absurd (hQ.1 rfl).2 h1
   have d8:decide (0≤n)=true:=decide_eq_true h0
   have d9:decide (n<64)=false:=decide_eq_false h1
   clear hQ
   go_enter Tryz.func38,Tryz.ntmps38
   go_wp2_with fail
   go_ret
   exact⟨rfl,rfl⟩
 ·obtain rfl:Q=false:=by
   cases Q with
   | false=>rfl
   | true=>exact absurd (hQ.1 rfl).1 h0
  have d8:decide (0≤n)=false:=decide_eq_false h0
  clear hQ
  go_enter Tryz.func38,Tryz.ntmps38
  go_wp2_with fail
  go_ret
  exact⟨rfl,rfl⟩
theorem zba (n:Int)(Q:Bool)(hQ:Q=true↔EpOk n)(w:World):
  Calls Tryz.prog 39 #[xI n] w fun e w'=>e=.returned (.bool Q)∧w=w':=by
 by_cases h0:0≤n
 ·by_cases h1:n≤4294967295
  ·obtain rfl:Q=true:=hQ.2 ⟨h0,h1⟩
   have d8:decide (0≤n)=true:=decide_eq_true h0
   have d9:decide (n≤4294967295)=true:=decide_eq_true h1
   clear hQ
   go_enter Tryz.func39,Tryz.ntmps39
   go_wp2_with fail
   go_ret
   exact⟨rfl,rfl⟩
  ·obtain rfl:Q=false:=by
    cases Q with
    | false=>rfl
    | true=>exact absurd (hQ.1 rfl).2 h1
   have d8:decide (0≤n)=true:=decide_eq_true h0
   have d9:decide (n≤4294967295)=false:=decide_eq_false h1
   clear hQ
   go_enter Tryz.func39,Tryz.ntmps39
   go_wp2_with fail
   go_ret
   exact⟨rfl,rfl⟩
 ·obtain rfl:Q=false:=by
   cases Q with
   | false=>rfl
   | true=>exact absurd (hQ.1 rfl).1 h0
  have d8:decide (0≤n)=false:=decide_eq_false h0
  clear hQ
  go_enter Tryz.func39,Tryz.ntmps39
  go_wp2_with fail
  go_ret
  exact⟨rfl,rfl⟩
theorem zcM (n:Int)(Q:Bool)(hQ:Q=true↔1≤n∧n≤8)(w:World):
  Calls Tryz.prog 40 #[xI n] w fun e w'=>e=.returned (.bool Q)∧w=w':=by
 by_cases h0:1≤n
 ·by_cases h1:n≤8
  ·obtain rfl:Q=true:=hQ.2 ⟨h0,h1⟩
   have d8:decide (1≤n)=true:=decide_eq_true h0
   have d9:decide (n≤8)=true:=decide_eq_true h1
   clear hQ
   go_enter Tryz.func40,Tryz.ntmps40
   go_wp2_with fail
   go_ret
   exact⟨rfl,rfl⟩
  ·obtain rfl:Q=false:=by
    cases Q with
    | false=>rfl
    | true=>exact absurd (hQ.1 rfl).2 h1
   have d8:decide (1≤n)=true:=decide_eq_true h0
   have d9:decide (n≤8)=false:=decide_eq_false h1
   clear hQ
   go_enter Tryz.func40,Tryz.ntmps40
   go_wp2_with fail
   go_ret
   exact⟨rfl,rfl⟩
 ·obtain rfl:Q=false:=by
   cases Q with
   | false=>rfl
   | true=>exact absurd (hQ.1 rfl).1 h0
  have d8:decide (1≤n)=false:=decide_eq_false h0
  clear hQ
  go_enter Tryz.func40,Tryz.ntmps40
  go_wp2_with fail
  go_ret
  exact⟨rfl,rfl⟩
theorem zf9 (fr ep to pe:Int)(a:Option Addr)(l c:Nat)(Q:Bool)(hQ:Q=true↔FrHd fr ep to pe l)(w:World):
  Calls Tryz.prog 21 #[.agg (xA fr ep to pe (.slice a l c))] w fun e w'=>e=.returned (.bool Q)∧Below w.heap.size w w':=by
 have OF:=xh (zav w fr ep to pe (.slice a l c) 24 w.heap.size rfl)
 have HB:Hid (Below w.heap.size w (w.alloc (.cells (xA fr ep to pe (.slice a l c)) 24))):=xr.alloc xl _
 by_cases q0:0≤fr∧fr<64
 ·by_cases q1:0≤to∧to<64
  ·skip
   by_cases e1:EpOk ep
   ·by_cases e2:EpOk pe
    ·by_cases p0:pe=0
     ·skip
      by_cases n0:1≤(l:Int)∧(l:Int)≤8
      ·skip
       have x5:(to==255)=false:=by simp only[beq_eq_false_iff_ne,ne_eq];omega
       have x6:(pe==0)=true:=by simp only[beq_iff_eq];omega
       obtain rfl:Q=true:=by
        exact hQ.2 ⟨q0,(.inl q1),e1,e2,by omega,by omega⟩
       have c0:=fun W=>zau fr true ⟨fun _=>q0,fun _=>rfl⟩ W
       have c1:=fun W=>zau to true ⟨fun _=>q1,fun _=>rfl⟩ W
       have c2:=fun W=>zba ep true ⟨fun _=>e1,fun _=>rfl⟩ W
       have c3:=fun W=>zba pe true ⟨fun _=>e2,fun _=>rfl⟩ W
       have c4:=fun W=>zcM (l:Int) true ⟨fun _=>n0,fun _=>rfl⟩ W
       clear hQ q0 q1 e1 e2 p0 n0
       obtain⟨⟨u0,u1,u2,u3,u4⟩,-⟩:=OF.out
       go_enter Tryz.func21,Tryz.ntmps21
       go_wp2_with fail
       refine(c0 _).mono ?_
       rintro e w0 ⟨rfl,hw⟩
       subst hw
       go_wp2_with fail
       refine(c1 _).mono ?_
       rintro e w1 ⟨rfl,hw⟩
       subst hw
       go_wp2_with fail
       refine(c2 _).mono ?_
       rintro e w2 ⟨rfl,hw⟩
       subst hw
       go_wp2_with fail
       refine(c3 _).mono ?_
       rintro e w3 ⟨rfl,hw⟩
       subst hw
       go_wp2_with fail
       refine(c4 _).mono ?_
       rintro e w4 ⟨rfl,hw⟩
       subst hw
       go_wp2_with fail
       go_ret
       exact⟨rfl,HB.out⟩
      ·skip
       have x5:(to==255)=false:=by simp only[beq_eq_false_iff_ne,ne_eq];omega
       have x6:(pe==0)=true:=by simp only[beq_iff_eq];omega
       obtain rfl:Q=false:=by
        cases Q with
        | false=>rfl
        | true=>exact absurd (hQ.1 rfl) (fun h=>n0 (by have:=h.2.2.2.2;omega))
       have c0:=fun W=>zau fr true ⟨fun _=>q0,fun _=>rfl⟩ W
       have c1:=fun W=>zau to true ⟨fun _=>q1,fun _=>rfl⟩ W
       have c2:=fun W=>zba ep true ⟨fun _=>e1,fun _=>rfl⟩ W
       have c3:=fun W=>zba pe true ⟨fun _=>e2,fun _=>rfl⟩ W
       have c4:=fun W=>zcM (l:Int) false ⟨fun h=>(by cases h),fun h=>absurd h n0⟩ W
       clear hQ q0 q1 e1 e2 p0 n0
       obtain⟨⟨u0,u1,u2,u3,u4⟩,-⟩:=OF.out
       go_enter Tryz.func21,Tryz.ntmps21
       go_wp2_with fail
       refine(c0 _).mono ?_
       rintro e w0 ⟨rfl,hw⟩
       subst hw
       go_wp2_with fail
       refine(c1 _).mono ?_
       rintro e w1 ⟨rfl,hw⟩
       subst hw
       go_wp2_with fail
       refine(c2 _).mono ?_
       rintro e w2 ⟨rfl,hw⟩
       subst hw
       go_wp2_with fail
       refine(c3 _).mono ?_
       rintro e w3 ⟨rfl,hw⟩
       subst hw
       go_wp2_with fail
       refine(c4 _).mono ?_
       rintro e w4 ⟨rfl,hw⟩
       subst hw
       go_wp2_with fail
       go_ret
       exact⟨rfl,HB.out⟩
     ·skip
      by_cases n0:1≤(l:Int)∧(l:Int)≤8
      ·skip
       have x5:(to==255)=false:=by simp only[beq_eq_false_iff_ne,ne_eq];omega
       have x6:(pe==0)=false:=by simp only[beq_eq_false_iff_ne,ne_eq];omega
       obtain rfl:Q=true:=by
        exact hQ.2 ⟨q0,(.inl q1),e1,e2,by omega,by omega⟩
       have c0:=fun W=>zau fr true ⟨fun _=>q0,fun _=>rfl⟩ W
       have c1:=fun W=>zau to true ⟨fun _=>q1,fun _=>rfl⟩ W
       have c2:=fun W=>zba ep true ⟨fun _=>e1,fun _=>rfl⟩ W
       have c3:=fun W=>zba pe true ⟨fun _=>e2,fun _=>rfl⟩ W
       have c4:=fun W=>zcM (l:Int) true ⟨fun _=>n0,fun _=>rfl⟩ W
       clear hQ q0 q1 e1 e2 p0 n0
       obtain⟨⟨u0,u1,u2,u3,u4⟩,-⟩:=OF.out
       go_enter Tryz.func21,Tryz.ntmps21
       go_wp2_with fail
       refine(c0 _).mono ?_
       rintro e w0 ⟨rfl,hw⟩
       subst hw
       go_wp2_with fail
       refine(c1 _).mono ?_
       rintro e w1 ⟨rfl,hw⟩
       subst hw
       go_wp2_with fail
       refine(c2 _).mono ?_
       rintro e w2 ⟨rfl,hw⟩
       subst hw
       go_wp2_with fail
       refine(c3 _).mono ?_
       rintro e w3 ⟨rfl,hw⟩
       subst hw
       go_wp2_with fail
       refine(c4 _).mono ?_
       rintro e w4 ⟨rfl,hw⟩
       subst hw
       go_wp2_with fail
       go_ret
       exact⟨rfl,HB.out⟩
      ·skip
       have x5:(to==255)=false:=by simp only[beq_eq_false_iff_ne,ne_eq];omega
       have x6:(pe==0)=false:=by simp only[beq_eq_false_iff_ne,ne_eq];omega
       obtain rfl:Q=false:=by
        cases Q with
        | false=>rfl
        | true=>exact absurd (hQ.1 rfl) (fun h=>n0 (by have:=h.2.2.2.2;omega))
       have c0:=fun W=>zau fr true ⟨fun _=>q0,fun _=>rfl⟩ W
       have c1:=fun W=>zau to true ⟨fun _=>q1,fun _=>rfl⟩ W
       have c2:=fun W=>zba ep true ⟨fun _=>e1,fun _=>rfl⟩ W
       have c3:=fun W=>zba pe true ⟨fun _=>e2,fun _=>rfl⟩ W
       have c4:=fun W=>zcM (l:Int) false ⟨fun h=>(by cases h),fun h=>absurd h n0⟩ W
       clear hQ q0 q1 e1 e2 p0 n0
       obtain⟨⟨u0,u1,u2,u3,u4⟩,-⟩:=OF.out
       go_enter Tryz.func21,Tryz.ntmps21
       go_wp2_with fail
       refine(c0 _).mono ?_
       rintro e w0 ⟨rfl,hw⟩
       subst hw
       go_wp2_with fail
       refine(c1 _).mono ?_
       rintro e w1 ⟨rfl,hw⟩
       subst hw
       go_wp2_with fail
       refine(c2 _).mono ?_
       rintro e w2 ⟨rfl,hw⟩
       subst hw
       go_wp2_with fail
       refine(c3 _).mono ?_
       rintro e w3 ⟨rfl,hw⟩
       subst hw
       go_wp2_with fail
       refine(c4 _).mono ?_
       rintro e w4 ⟨rfl,hw⟩
       subst hw
       go_wp2_with fail
       go_ret
       exact⟨rfl,HB.out⟩
    ·skip
     have x5:(to==255)=false:=by simp only[beq_eq_false_iff_ne,ne_eq];omega
     obtain rfl:Q=false:=by
      cases Q with
      | false=>rfl
      | true=>exact absurd (hQ.1 rfl) (fun h=>e2 h.2.2.2.1)
     have c0:=fun W=>zau fr true ⟨fun _=>q0,fun _=>rfl⟩ W
     have c1:=fun W=>zau to true ⟨fun _=>q1,fun _=>rfl⟩ W
     have c2:=fun W=>zba ep true ⟨fun _=>e1,fun _=>rfl⟩ W
     have c3:=fun W=>zba pe false ⟨fun h=>(by cases h),fun h=>absurd h e2⟩ W
     clear hQ q0 q1 e1 e2
     obtain⟨⟨u0,u1,u2,u3,u4⟩,-⟩:=OF.out
     go_enter Tryz.func21,Tryz.ntmps21
     go_wp2_with fail
     refine(c0 _).mono ?_
     rintro e w0 ⟨rfl,hw⟩
     subst hw
     go_wp2_with fail
     refine(c1 _).mono ?_
     rintro e w1 ⟨rfl,hw⟩
     subst hw
     go_wp2_with fail
     refine(c2 _).mono ?_
     rintro e w2 ⟨rfl,hw⟩
     subst hw
     go_wp2_with fail
     refine(c3 _).mono ?_
     rintro e w3 ⟨rfl,hw⟩
     subst hw
     go_wp2_with fail
     go_ret
     exact⟨rfl,HB.out⟩
   ·skip
    have x5:(to==255)=false:=by simp only[beq_eq_false_iff_ne,ne_eq];omega
    obtain rfl:Q=false:=by
     cases Q with
     | false=>rfl
     | true=>exact absurd (hQ.1 rfl) (fun h=>e1 h.2.2.1)
    have c0:=fun W=>zau fr true ⟨fun _=>q0,fun _=>rfl⟩ W
    have c1:=fun W=>zau to true ⟨fun _=>q1,fun _=>rfl⟩ W
    have c2:=fun W=>zba ep false ⟨fun h=>(by cases h),fun h=>absurd h e1⟩ W
    clear hQ q0 q1 e1
    obtain⟨⟨u0,u1,u2,u3,u4⟩,-⟩:=OF.out
    go_enter Tryz.func21,Tryz.ntmps21
    go_wp2_with fail
    refine(c0 _).mono ?_
    rintro e w0 ⟨rfl,hw⟩
    subst hw
    go_wp2_with fail
    refine(c1 _).mono ?_
    rintro e w1 ⟨rfl,hw⟩
    subst hw
    go_wp2_with fail
    refine(c2 _).mono ?_
    rintro e w2 ⟨rfl,hw⟩
    subst hw
    go_wp2_with fail
    go_ret
    exact⟨rfl,HB.out⟩
  ·by_cases q2:to=255
   ·skip
    by_cases e1:EpOk ep
    ·by_cases e2:EpOk pe
     ·by_cases p0:pe=0
      ·skip
       by_cases n0:1≤(l:Int)∧(l:Int)≤8
       ·skip
        have x5:(to==255)=true:=by simp only[beq_iff_eq];omega
        have x6:(pe==0)=true:=by simp only[beq_iff_eq];omega
        obtain rfl:Q=true:=by
         exact hQ.2 ⟨q0,(.inr ⟨q2,p0⟩),e1,e2,by omega,by omega⟩
        have c0:=fun W=>zau fr true ⟨fun _=>q0,fun _=>rfl⟩ W
        have c1:=fun W=>zau to false ⟨fun h=>(by cases h),fun h=>absurd h q1⟩ W
        have c2:=fun W=>zba ep true ⟨fun _=>e1,fun _=>rfl⟩ W
        have c3:=fun W=>zba pe true ⟨fun _=>e2,fun _=>rfl⟩ W
        have c4:=fun W=>zcM (l:Int) true ⟨fun _=>n0,fun _=>rfl⟩ W
        clear hQ q0 q1 q2 e1 e2 p0 n0
        obtain⟨⟨u0,u1,u2,u3,u4⟩,-⟩:=OF.out
        go_enter Tryz.func21,Tryz.ntmps21
        go_wp2_with fail
        refine(c0 _).mono ?_
        rintro e w0 ⟨rfl,hw⟩
        subst hw
        go_wp2_with fail
        refine(c1 _).mono ?_
        rintro e w1 ⟨rfl,hw⟩
        subst hw
        go_wp2_with fail
        refine(c2 _).mono ?_
        rintro e w2 ⟨rfl,hw⟩
        subst hw
        go_wp2_with fail
        refine(c3 _).mono ?_
        rintro e w3 ⟨rfl,hw⟩
        subst hw
        go_wp2_with fail
        refine(c4 _).mono ?_
        rintro e w4 ⟨rfl,hw⟩
        subst hw
        go_wp2_with fail
        go_ret
        exact⟨rfl,HB.out⟩
       ·skip
        have x5:(to==255)=true:=by simp only[beq_iff_eq];omega
        have x6:(pe==0)=true:=by simp only[beq_iff_eq];omega
        obtain rfl:Q=false:=by
         cases Q with
         | false=>rfl
         | true=>exact absurd (hQ.1 rfl) (fun h=>n0 (by have:=h.2.2.2.2;omega))
        have c0:=fun W=>zau fr true ⟨fun _=>q0,fun _=>rfl⟩ W
        have c1:=fun W=>zau to false ⟨fun h=>(by cases h),fun h=>absurd h q1⟩ W
        have c2:=fun W=>zba ep true ⟨fun _=>e1,fun _=>rfl⟩ W
        have c3:=fun W=>zba pe true ⟨fun _=>e2,fun _=>rfl⟩ W
        have c4:=fun W=>zcM (l:Int) false ⟨fun h=>(by cases h),fun h=>absurd h n0⟩ W
        clear hQ q0 q1 q2 e1 e2 p0 n0
        obtain⟨⟨u0,u1,u2,u3,u4⟩,-⟩:=OF.out
        go_enter Tryz.func21,Tryz.ntmps21
        go_wp2_with fail
        refine(c0 _).mono ?_
        rintro e w0 ⟨rfl,hw⟩
        subst hw
        go_wp2_with fail
        refine(c1 _).mono ?_
        rintro e w1 ⟨rfl,hw⟩
        subst hw
        go_wp2_with fail
        refine(c2 _).mono ?_
        rintro e w2 ⟨rfl,hw⟩
        subst hw
        go_wp2_with fail
        refine(c3 _).mono ?_
        rintro e w3 ⟨rfl,hw⟩
        subst hw
        go_wp2_with fail
        refine(c4 _).mono ?_
        rintro e w4 ⟨rfl,hw⟩
        subst hw
        go_wp2_with fail
        go_ret
        exact⟨rfl,HB.out⟩
      ·skip
       have x5:(to==255)=true:=by simp only[beq_iff_eq];omega
       have x6:(pe==0)=false:=by simp only[beq_eq_false_iff_ne,ne_eq];omega
       obtain rfl:Q=false:=by
        cases Q with
        | false=>rfl
        | true=>exact absurd (hQ.1 rfl) (fun h=>(by rcases h.2.1 with h|h;exact q1 h;exact p0 h.2))
       have c0:=fun W=>zau fr true ⟨fun _=>q0,fun _=>rfl⟩ W
       have c1:=fun W=>zau to false ⟨fun h=>(by cases h),fun h=>absurd h q1⟩ W
       have c2:=fun W=>zba ep true ⟨fun _=>e1,fun _=>rfl⟩ W
       have c3:=fun W=>zba pe true ⟨fun _=>e2,fun _=>rfl⟩ W
       clear hQ q0 q1 q2 e1 e2 p0
       obtain⟨⟨u0,u1,u2,u3,u4⟩,-⟩:=OF.out
       go_enter Tryz.func21,Tryz.ntmps21
       go_wp2_with fail
       refine(c0 _).mono ?_
       rintro e w0 ⟨rfl,hw⟩
       subst hw
       go_wp2_with fail
       refine(c1 _).mono ?_
       rintro e w1 ⟨rfl,hw⟩
       subst hw
       go_wp2_with fail
       refine(c2 _).mono ?_
       rintro e w2 ⟨rfl,hw⟩
       subst hw
       go_wp2_with fail
       refine(c3 _).mono ?_
       rintro e w3 ⟨rfl,hw⟩
       subst hw
       go_wp2_with fail
       go_ret
       exact⟨rfl,HB.out⟩
     ·skip
      have x5:(to==255)=true:=by simp only[beq_iff_eq];omega
      obtain rfl:Q=false:=by
       cases Q with
       | false=>rfl
       | true=>exact absurd (hQ.1 rfl) (fun h=>e2 h.2.2.2.1)
      have c0:=fun W=>zau fr true ⟨fun _=>q0,fun _=>rfl⟩ W
      have c1:=fun W=>zau to false ⟨fun h=>(by cases h),fun h=>absurd h q1⟩ W
      have c2:=fun W=>zba ep true ⟨fun _=>e1,fun _=>rfl⟩ W
      have c3:=fun W=>zba pe false ⟨fun h=>(by cases h),fun h=>absurd h e2⟩ W
      clear hQ q0 q1 q2 e1 e2
      obtain⟨⟨u0,u1,u2,u3,u4⟩,-⟩:=OF.out
      go_enter Tryz.func21,Tryz.ntmps21
      go_wp2_with fail
      refine(c0 _).mono ?_
      rintro e w0 ⟨rfl,hw⟩
      subst hw
      go_wp2_with fail
      refine(c1 _).mono ?_
      rintro e w1 ⟨rfl,hw⟩
      subst hw
      go_wp2_with fail
      refine(c2 _).mono ?_
      rintro e w2 ⟨rfl,hw⟩
      subst hw
      go_wp2_with fail
      refine(c3 _).mono ?_
      rintro e w3 ⟨rfl,hw⟩
      subst hw
      go_wp2_with fail
      go_ret
      exact⟨rfl,HB.out⟩
    ·skip
     have x5:(to==255)=true:=by simp only[beq_iff_eq];omega
     obtain rfl:Q=false:=by
      cases Q with
      | false=>rfl
      | true=>exact absurd (hQ.1 rfl) (fun h=>e1 h.2.2.1)
     have c0:=fun W=>zau fr true ⟨fun _=>q0,fun _=>rfl⟩ W
     have c1:=fun W=>zau to false ⟨fun h=>(by cases h),fun h=>absurd h q1⟩ W
     have c2:=fun W=>zba ep false ⟨fun h=>(by cases h),fun h=>absurd h e1⟩ W
     clear hQ q0 q1 q2 e1
     obtain⟨⟨u0,u1,u2,u3,u4⟩,-⟩:=OF.out
     go_enter Tryz.func21,Tryz.ntmps21
     go_wp2_with fail
     refine(c0 _).mono ?_
     rintro e w0 ⟨rfl,hw⟩
     subst hw
     go_wp2_with fail
     refine(c1 _).mono ?_
     rintro e w1 ⟨rfl,hw⟩
     subst hw
     go_wp2_with fail
     refine(c2 _).mono ?_
     rintro e w2 ⟨rfl,hw⟩
     subst hw
     go_wp2_with fail
     go_ret
     exact⟨rfl,HB.out⟩
   ·skip
    have x5:(to==255)=false:=by simp only[beq_eq_false_iff_ne,ne_eq];omega
    obtain rfl:Q=false:=by
     cases Q with
     | false=>rfl
     | true=>exact absurd (hQ.1 rfl) (fun h=>(by rcases h.2.1 with h|h;exact q1 h;exact q2 h.1))
    have c0:=fun W=>zau fr true ⟨fun _=>q0,fun _=>rfl⟩ W
    have c1:=fun W=>zau to false ⟨fun h=>(by cases h),fun h=>absurd h q1⟩ W
    clear hQ q0 q1 q2
    obtain⟨⟨u0,u1,u2,u3,u4⟩,-⟩:=OF.out
    go_enter Tryz.func21,Tryz.ntmps21
    go_wp2_with fail
    refine(c0 _).mono ?_
    rintro e w0 ⟨rfl,hw⟩
    subst hw
    go_wp2_with fail
    refine(c1 _).mono ?_
    rintro e w1 ⟨rfl,hw⟩
    subst hw
    go_wp2_with fail
    go_ret
    exact⟨rfl,HB.out⟩
 ·skip
  by_cases q2:to=255
  ·skip
   have x5:(to==255)=true:=by simp only[beq_iff_eq];omega
   obtain rfl:Q=false:=by
    cases Q with
    | false=>rfl
    | true=>exact absurd (hQ.1 rfl) (fun h=>q0 h.1)
   have c0:=fun W=>zau fr false ⟨fun h=>(by cases h),fun h=>absurd h q0⟩ W
   clear hQ q0 q2
   obtain⟨⟨u0,u1,u2,u3,u4⟩,-⟩:=OF.out
   go_enter Tryz.func21,Tryz.ntmps21
   go_wp2_with fail
   refine(c0 _).mono ?_
   rintro e w0 ⟨rfl,hw⟩
   subst hw
   go_wp2_with fail
   go_ret
   exact⟨rfl,HB.out⟩
  ·skip
   have x5:(to==255)=false:=by simp only[beq_eq_false_iff_ne,ne_eq];omega
   obtain rfl:Q=false:=by
    cases Q with
    | false=>rfl
    | true=>exact absurd (hQ.1 rfl) (fun h=>q0 h.1)
   have c0:=fun W=>zau fr false ⟨fun h=>(by cases h),fun h=>absurd h q0⟩ W
   clear hQ q0 q2
   obtain⟨⟨u0,u1,u2,u3,u4⟩,-⟩:=OF.out
   go_enter Tryz.func21,Tryz.ntmps21
   go_wp2_with fail
   refine(c0 _).mono ?_
   rintro e w0 ⟨rfl,hw⟩
   subst hw
   go_wp2_with fail
   go_ret
   exact⟨rfl,HB.out⟩
theorem zha (v:Int)(n:Nat)(w:World)(hv:0≤v∧v<zao n)(h1:1≤n)(h7:n≤7):
  Calls Tryz.prog 23 #[xI v,xI n] w fun e w'=>∃r,e=.returned r∧w'.ownsRow w.heap.size 5 1 r n ((lo v n).map (Value.int .u8))∧Below w.heap.size w w':=by
 have cP:=zdP v n w hv h1 h7
 clear hv h1 h7
 go_enter Tryz.func23,Tryz.ntmps23
 go_wp2_with fail
 refine cP.mono ?_
 rintro e w1 ⟨r,rfl,ho,hb⟩
 have HO:=xh ho
 have HB:=xh hb
 clear ho hb
 go_wp2_with fail
 go_ret
 exact⟨_,rfl,HO.out,HB.out⟩
theorem zhb (v:Value)(xs:List Int)(k n:Int)(w:World)(hv:Bs w v xs):
  Calls Tryz.prog 50 #[v,xI k,xI n] w fun e w'=>e=.returned (xI (getS xs k n).1)∧w=w':=by
 have cG:=zjq v xs k n w hv
 generalize getS xs k n=r at*
 obtain⟨r1,r2,r3⟩:=r
 simp only[tri]at*
 obtain⟨a,l,c,rfl⟩:=zal hv
 clear hv
 go_enter Tryz.func50,Tryz.ntmps50
 go_wp2_with fail
 refine cG.mono ?_
 rintro e w1 ⟨rfl,hw⟩
 subst hw
 go_wp2_with fail
 go_ret
 exact⟨rfl,rfl⟩
theorem zbX {P:Program}{T K E:TypeId}(hT:P.underlying T=some (.map K E))(hK:P.underlying K=some (.int .i64))(W:World)(es es':Array MapEntry)(cl:Nat)(k:Int)(v:Value)(b:Nat)(hb:b=W.heap.size)
  (hn:Instr.findNow (.int .i64) (xI k) es.toList 0=some none) (he:es'=es.push ⟨xI k,v,cl⟩):(Instr.mapUpdate T (.map (some b)) (xI k) v).run P (W.alloc (.map es cl))=.ok () (W.alloc (.map es' (cl+1))):=by
 subst hb he
 have hb:(W.alloc (.map es cl)).heap[W.heap.size]? =some (.map es cl):=by simp[World.alloc,-World.alloc_eq]
 have hk:MapKept.IsKey (.int .i64) (xI k):=by simp[MapKept.IsKey]
 simp[Instr.mapUpdate,run_underlying hT,MapKept.run_getObj_map hb,MapKept.run_checkKey hK hk,MapKept.run_findKey hK hn,MapKept.run_setObj_map _ hb,Result.andThen]
 simp[World.alloc,-World.alloc_eq,Array.setIfInBounds]
 refine Array.ext (by simp) (fun i h1 h2=>?_)
 have h3:i<W.heap.size+1:=by simpa using h2
 by_cases e:W.heap.size=i
 ·subst e;simp
 ·have h4:i<W.heap.size:=by omega
  simp[Array.getElem_set,Array.getElem_push,e,h4]
theorem zbH {P:Program}{T K E:TypeId}(hT:P.underlying T=some (.map K E))(hK:P.underlying K=some (.int .i64))(W:World)(es:Array MapEntry)(cl:Nat)(k:Int)(v:Value)(b i:Nat)(hb:W.heap[b]? =some (.map es cl))
  (hn:Instr.findNow (.int .i64) (xI k) es.toList 0=some (some (i,v))):(Instr.lookup T (.map (some b)) (xI k) true).run P W=.ok (.tuple #[v,.bool true]) W:=by
 have hk:MapKept.IsKey (.int .i64) (xI k):=by simp[MapKept.IsKey]
 simp[Instr.lookup,run_underlying hT,MapKept.run_getObj_map hb,MapKept.run_checkKey hK hk,MapKept.run_findKey hK hn,Result.andThen]
theorem zd2 {P:Program}{T K E:TypeId}(hT:P.underlying T=some (.map K E))(hK:P.underlying K=some (.int .i64))(W:World)(es:Array MapEntry)(cl:Nat)(k:Int)(z:Value)(b:Nat)(hb:W.heap[b]? =some (.map es cl))
  (hn:Instr.findNow (.int .i64) (xI k) es.toList 0=some none) (hz:(zeroValue E).run P W=.ok z W):(Instr.lookup T (.map (some b)) (xI k) true).run P W=.ok (.tuple #[z,.bool false]) W:=by
 have hk:MapKept.IsKey (.int .i64) (xI k):=by simp[MapKept.IsKey]
 simp[Instr.lookup,run_underlying hT,MapKept.run_getObj_map hb,MapKept.run_checkKey hK hk,MapKept.run_findKey hK hn,Result.andThen,hz]
def ent4 (f1 f2 f3 f4:Value):Array MapEntry:=#[⟨xI 1,f1,0⟩,⟨xI 2,f2,1⟩,⟨xI 3,f3,2⟩,⟨xI 4,f4,3⟩]
theorem zoT (f1 f2 f3 f4:Value):Instr.findNow (.int .i64) (xI 1) (ent4 f1 f2 f3 f4).toList 0=some (some (0,f1)):=by simp[ent4,Instr.findNow,Instr.sameNow]
theorem zpc (f1 f2 f3 f4:Value):Instr.findNow (.int .i64) (xI 2) (ent4 f1 f2 f3 f4).toList 0=some (some (1,f2)):=by simp[ent4,Instr.findNow,Instr.sameNow]
theorem zpi (f1 f2 f3 f4:Value):Instr.findNow (.int .i64) (xI 3) (ent4 f1 f2 f3 f4).toList 0=some (some (2,f3)):=by simp[ent4,Instr.findNow,Instr.sameNow]
theorem zo7 (f1 f2 f3 f4:Value):Instr.findNow (.int .i64) (xI 4) (ent4 f1 f2 f3 f4).toList 0=some (some (3,f4)):=by simp[ent4,Instr.findNow,Instr.sameNow]
theorem zoz (f1 f2 f3 f4:Value)(k:Int)(h:k≠1∧k≠2∧k≠3∧k≠4):Instr.findNow (.int .i64) (xI k) (ent4 f1 f2 f3 f4).toList 0=some none:=by
 have e1:(k==1)=false:=by simpa using h.1
 have e2:(k==2)=false:=by simpa using h.2.1
 have e3:(k==3)=false:=by simpa using h.2.2.1
 have e4:(k==4)=false:=by simpa using h.2.2.2
 simp[ent4,Instr.findNow,Instr.sameNow,e1,e2,e3,e4]
def ckE (xs:List Int):Int:=
 if xs.length<17 then 6
 else if xs.getD 0 0≠84∨xs.getD 1 0≠1 then 4
 else if(xs.length:Int)<segN xs 12 2 then 6
 else if segN xs 12 2<(xs.length:Int)then 4
 else if segN xs (xs.length-2) 2≠sumN (xs.take (xs.length-2))then 5
 else 0
theorem zoJ {xs:List Int}{k n:Nat}(h1:1≤n)(h7:n≤7)(h:k+n≤xs.length):(getS xs k n).1=segN xs k n:=by
 unfold getS
 rw[if_neg (by omega),if_neg (by omega)]
 rfl
theorem znt (v:Value)(xs:List Int)(w:World)(hv:Bs w v xs):Calls Tryz.prog 29 #[v] w fun e w'=>e=.returned (xI (ckE xs))∧Below w.heap.size w w':=by
 have HV:=xh hv
 obtain⟨a,l,c,rfl⟩:=zal hv
 obtain⟨rfl,-⟩:=za0 hv
 clear hv
 go_enter Tryz.func29,Tryz.ntmps29
 by_cases h17:xs.length<17
 ·have hd:decide ((xs.length:Int)<17)=true:=decide_eq_true (by omega)
  have HE9:Hid (ckE xs=6):=by
   show _=_
   unfold ckE
   rw[if_pos h17]
  go_wp2_with fail
  go_ret
  exact⟨by rw[HE9.out];rfl,Below.refl _ _⟩
 have hd:decide ((xs.length:Int)<17)=false:=decide_eq_false (by omega)
 have H17:Hid (17≤xs.length):=by show _≤_;omega
 obtain⟨bb,bo,ha⟩:∃bb bo,a=some ⟨bb,bo,none⟩:=by
  rcases HV.out.2.2 with ⟨a9,c9,e,_,e2⟩|⟨b9,o9,c9,e,_⟩
  ·have h0:=H17.out;rw[e2]at h0;simp at h0
  ·simp only[Value.slice.injEq]at e;exact⟨b9,o9,e.1⟩
 subst ha
 have HCE:Hid (∀i,i<xs.length→w.cell? ⟨bb,bo+i,none⟩=some (.int .u8 (xs.getD i 0))):=by
  rcases HV.out.2.2 with ⟨a9,c9,e,_,e2⟩|⟨b9,o9,c9,e,_,e3⟩
  ·have h0:=H17.out;rw[e2]at h0;simp at h0
  ·simp only[Value.slice.injEq,Option.some.injEq,Addr.mk.injEq]at e
   obtain⟨⟨rfl,rfl,_⟩,_⟩:=e;exact e3
 have HCC:Hid (xs.length≤c):=by
  rcases HV.out.2.2 with ⟨a9,c9,e,_,e2⟩|⟨b9,o9,c9,e,e4,e3⟩
  ·have h0:=H17.out;rw[e2]at h0;simp at h0
  ·simp only[Value.slice.injEq]at e;rw[e.2.2];exact e4
 obtain⟨x0,hx0⟩:∃x,xs.getD 0 0=x:=⟨_,rfl⟩
 obtain⟨x1,hx1⟩:∃x,xs.getD 1 0=x:=⟨_,rfl⟩
 have q0:w.cell? ⟨bb,bo,none⟩=some (.int .u8 x0):=by rw[←hx0];exact HCE.out 0 (by have:=H17.out;omega)
 have q1:w.cell? ⟨bb,bo+1,none⟩=some (.int .u8 x1):=by rw[←hx1];exact HCE.out 1 (by have:=H17.out;omega)
 have HX0:=xh hx0
 have HX1:=xh hx1
 clear hx0 hx1 h17
 have hi0:(0:Nat)<xs.length:=by have:=H17.out;omega
 have hi1:(1:Nat)<xs.length:=by have:=H17.out;omega
 by_cases h84:x0=84
 rotate_left
 ·have h84':(x0 !=84)=true:=by simpa using h84
  have HE:Hid (xs.getD 0 0≠84∨xs.getD 1 0≠1):=by show _∨_;rw[HX0.out];exact .inl h84
  clear h84
  have HE9:Hid (ckE xs=4):=by
   show _=_
   unfold ckE
   rw[if_neg (by have:=H17.out;omega),if_pos HE.out]
  go_wp2_with fail
  go_ret
  exact⟨by rw[HE9.out];rfl,Below.refl _ _⟩
 have h84':(x0 !=84)=false:=by simpa using h84
 by_cases h1:x1=1
 rotate_left
 ·have h1':(x1 !=1)=true:=by simpa using h1
  have HE:Hid (xs.getD 0 0≠84∨xs.getD 1 0≠1):=by show _∨_;rw[HX1.out];exact .inr h1
  clear h84 h1
  have HE9:Hid (ckE xs=4):=by
   show _=_
   unfold ckE
   rw[if_neg (by have:=H17.out;omega),if_pos HE.out]
  go_wp2_with fail
  go_ret
  exact⟨by rw[HE9.out];rfl,Below.refl _ _⟩
 have h1':(x1 !=1)=false:=by simpa using h1
 have HE:Hid (¬(xs.getD 0 0≠84∨xs.getD 1 0≠1)):=by show ¬_;rw[HX0.out,HX1.out];omega
 clear h84 h1
 have c1:=xh (zhb (.slice (some ⟨bb,bo,none⟩) xs.length c) xs 12 2 w HV.out)
 rw[show(getS xs 12 2).1=segN xs 12 2 from zoJ (k:=12) (n:=2) (by decide) (by decide) (by have:=H17.out;omega)]at c1
 have hck:ckE xs=if(xs.length:Int)<segN xs 12 2 then 6 else if segN xs 12 2<(xs.length:Int)then 4 else if segN xs (xs.length-2) 2≠sumN (xs.take (xs.length-2))then 5 else 0:=by unfold ckE;rw[if_neg (by have:=H17.out;omega),if_neg HE.out]
 obtain⟨g1,hg1⟩:∃g,segN xs 12 2=g:=⟨_,rfl⟩
 rw[hg1]at c1 hck
 have HCK:=xh hck
 have HG1:=xh hg1
 clear hg1 hck
 go_wp2_with fail
 refine c1.out.mono ?_
 rintro e w1 ⟨rfl,hw⟩
 subst hw
 by_cases hl1:(xs.length:Int)<g1
 ·replace HCK:=xh (HCK.out.trans (if_pos hl1))
  have hd1:decide ((xs.length:Int)<g1)=true:=decide_eq_true hl1
  clear hl1
  go_wp2_with fail
  go_ret
  exact⟨by rw[HCK.out];rfl,Below.refl _ _⟩
 replace HCK:=xh (HCK.out.trans (if_neg hl1))
 have hd1:decide ((xs.length:Int)<g1)=false:=decide_eq_false hl1
 by_cases hl2:g1<(xs.length:Int)
 ·replace HCK:=xh (HCK.out.trans (if_pos hl2))
  have hd2:decide (g1<(xs.length:Int))=true:=decide_eq_true hl2
  clear hl1 hl2
  go_wp2_with fail
  go_ret
  exact⟨by rw[HCK.out];rfl,Below.refl _ _⟩
 replace HCK:=xh (HCK.out.trans (if_neg hl2))
 obtain rfl:g1=(xs.length:Int):=by omega
 have hd2:decide ((xs.length:Int)<(xs.length:Int))=false:=decide_eq_false (by omega)
 obtain⟨n,hn⟩:∃n,xs.length=n+2:=⟨xs.length-2,by have:=H17.out;omega⟩
 have hle:n≤xs.length:=by omega
 have hw1:IntKind.i64.wrap ((xs.length:Int)-2)=(n:Int):=by
  have:=HG1.out
  have h2:segN xs 12 2≤65535:=by
   have h3:=zcR (xs:=xs) (k:=12) (by have:=H17.out;omega)
   rw[show(12+1:Nat)=13 from rfl]at h3
   have h4:=HV.out.1
   have h5:=zaQ h4 (show 12<xs.length by have:=H17.out;omega)
   have h6:=zaQ h4 (show 13<xs.length by have:=H17.out;omega)
   omega
  rw[IntKind.wrap_i64];omega
 have HN:=xh hn
 have c2:Hid (∀W,Bs W (.slice (some ⟨bb,bo,none⟩) xs.length c) xs→Calls Tryz.prog 50 #[.slice (some ⟨bb,bo,none⟩) xs.length c,xI (n:Int),xI 2] W fun e w'=>e=.returned (xI (segN xs n 2))∧W=w'):=fun W h=>by
  have h9:=zhb (.slice (some ⟨bb,bo,none⟩) xs.length c) xs (n:Int) 2 W h
  rwa [show(getS xs (n:Int) 2).1=segN xs n 2 from zoJ (k:=n) (n:=2) (by decide) (by decide) (by have:=HN.out;omega)]at h9
 have hT:Bs w (.slice (some ⟨bb,bo,none⟩) n c) (xs.take n):=by simpa using zcC HV.out 0 n (by omega) c (by have:=HCC.out;omega)
 have HT:=xh hT
 clear hT
 have c3:Hid (∀W,Bs W (.slice (some ⟨bb,bo,none⟩) n c) (xs.take n)→Calls Tryz.prog 24 #[.slice (some ⟨bb,bo,none⟩) n c] W fun e w'=>e=.returned (xI (sumN (xs.take n)))∧W=w'):=fun W h=>zjT _ _ W h
 replace HCK:=xh HCK.out
 have hn2:xs.length-2=n:=by omega
 rw[hn2]at HCK
 clear hn2
 generalize segN xs n 2=s1 at*
 generalize sumN (xs.take n)=s2 at*
 obtain⟨q,hq⟩:∃q,(s1 !=s2)=q:=⟨_,rfl⟩
 have HQ:=xh hq
 have hs1:(0:Int)≤(n:Int):=by omega
 have hs2:(n:Int)≤(c:Int):=by have:=HCC.out;omega
 have hs3:((n:Int)).toNat=n:=Int.toNat_natCast n
 clear hl1 hl2 hn hle c1
 go_wp2_with fail
 have kc:∀w',Below w.heap.size w w'→True:=fun _ _=>trivial
 refine zaf (C:=fun w'=>Below w.heap.size w w') (X:=fun w w'=>Below w.heap.size w w') (n:=38) (by kernel_rfl) (by kernel_rfl) rfl (fun w=>Below.refl _ w) xr.drew ?_
 refine wA 0 ?_
 refine wA 4 ?_
 refine za8 (Is _) (fun _ _ _ h _=>h) 50 (.inl rfl) (fun ρ w hC hc hfn hf=>by have e30:ρ (.tmp 30)=_:=hf 30 (by decide);have e31:ρ (.tmp 31)=_:=hf 31 (by decide);exact⟨_,by (conv=>lhs;simp[execOp,resolve,invoke,go_sem,hc,hfn,e30,e31]),zcH hC (c2.out w (zaa HV.out hC))⟩) ?_
 refine wA 0 ?_
 refine wA 4 ?_
 refine w_is (fun w=>Below.refl _ w) _ (.inl rfl) (fun ρ w hC hc hfn hf=>by have e33:ρ (.tmp 33)=_:=hf 33 (by decide);have e34:ρ (.tmp 34)=_:=hf 34 (by decide);(conv=>lhs;simp[execOp,go_sem,hc,e33,e34,hs1,hs2,hs3])) ?_
 refine za8 (Is _) (fun _ _ _ h _=>h) 24 (.inl rfl) (fun ρ w hC hc hfn hf=>by have e35:ρ (.tmp 35)=_:=hf 35 (by decide);exact⟨_,by (conv=>lhs;simp[execOp,resolve,invoke,go_sem,hc,hfn,e35]),zcH hC (c3.out w (zaa HT.out hC))⟩) ?_
 refine wE 32 36 hq ?_
 intro A W4 hC hn hd hf
 have y0:=yA (hf 0)
 have y1:=yA (hf 1)
 have y2:=yA (hf 2)
 have y3:=yA (hf 3)
 have y4:=yA (hf 4)
 have y5:=yA (hf 5)
 have y6:=yA (hf 6)
 have y7:=yA (hf 7)
 have y8:=yA (hf 8)
 have y9:=yA (hf 9)
 have y10:=yA (hf 10)
 have y11:=yA (hf 11)
 have y12:=yA (hf 12)
 have y13:=yA (hf 13)
 have y14:=yA (hf 14)
 have y15:=yA (hf 15)
 have y16:=yA (hf 16)
 have y17:=yA (hf 17)
 have y18:=yA (hf 18)
 have y19:=yA (hf 19)
 have y20:=yA (hf 20)
 have y21:=yA (hf 21)
 have y22:=yA (hf 22)
 have y23:=yA (hf 23)
 have y24:=yA (hf 24)
 have y25:=yA (hf 25)
 have y26:=yA (hf 26)
 have y27:=yA (hf 27)
 have y28:=yA (hf 28)
 have y29:=yA (hf 29)
 have y30:=yB (hf 30)
 have y31:=yB (hf 31)
 have y32:=yB (hf 32)
 have y33:=yB (hf 33)
 have y34:=yB (hf 34)
 have y35:=yB (hf 35)
 have y36:=yB (hf 36)
 have y37:=yB (hf 37)
 clear hf
 have hA:=zaL hn
 rw[show List.range 38=[0,1,2,3,4,5,6,7,8,9,10,11,12,13,14,15,16,17,18,19,20,21,22,23,24,25,26,27,28,29,30,31,32,33,34,35,36,37]from rfl,hd]at hA
 simp only[List.map_cons,List.map_nil,y0,y1,y2,y3,y4,y5,y6,y7,y8,y9,y10,y11,y12,y13,y14,y15,y16,y17,y18,y19,y20,y21,y22,y23,y24,y25,y26,y27,y28,y29,y30,y31,y32,y33,y34,y35,y36,y37]at hA
 clear y0 y1 y2 y3 y4 y5 y6 y7 y8 y9 y10 y11 y12 y13 y14 y15 y16 y17 y18 y19 y20 y21 y22 y23 y24 y25 y26 y27 y28 y29 y30 y31 y32 y33 y34 y35 y36 y37
 clear hn hd
 subst hA
 have HB4:=xh hC
 clear hC
 cases q with
 | true=>
  go_wp2_with fail
  go_ret
  exact⟨by rw[HCK.out,if_pos (by simpa using HQ.out)];rfl,HB4.out⟩
 | false=>
  go_wp2_with fail
  go_ret
  exact⟨by rw[HCK.out,if_neg (by simpa using HQ.out)];rfl,HB4.out⟩
def Imp9 (b:Bool)(P:Prop):Prop:=b=true→P
theorem zhW (b1 b2 b3 b4:Bool)(w:World):(Instr.index 129 (.agg #[.bool false,.bool b1,.bool b2,.bool b3,.bool b4]) (xI 0)).run Tryz.prog w=.ok (.bool false) w:=by kernel_rfl
theorem zhi (b1 b2 b3 b4:Bool)(w:World):(Instr.index 129 (.agg #[.bool false,.bool b1,.bool b2,.bool b3,.bool b4]) (xI 1)).run Tryz.prog w=.ok (.bool b1) w:=by kernel_rfl
theorem zhx (b1 b2 b3 b4:Bool)(w:World):(Instr.index 129 (.agg #[.bool false,.bool b1,.bool b2,.bool b3,.bool b4]) (xI 2)).run Tryz.prog w=.ok (.bool b2) w:=by kernel_rfl
theorem zhf (b1 b2 b3 b4:Bool)(w:World):(Instr.index 129 (.agg #[.bool false,.bool b1,.bool b2,.bool b3,.bool b4]) (xI 3)).run Tryz.prog w=.ok (.bool b3) w:=by kernel_rfl
theorem zh2 (b1 b2 b3 b4:Bool)(w:World):(Instr.index 129 (.agg #[.bool false,.bool b1,.bool b2,.bool b3,.bool b4]) (xI 4)).run Tryz.prog w=.ok (.bool b4) w:=by kernel_rfl
end Go.Proofs.YtjghebcnmoojmaaGreat
