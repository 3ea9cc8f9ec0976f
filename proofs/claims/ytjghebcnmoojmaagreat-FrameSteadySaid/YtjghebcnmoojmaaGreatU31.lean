/- A beacon read out of bytes: the program's Parse; what it and the reference answer is the same. No conditions. -/
import Derived.Test.YtjghebcnmoojmaaGreatU11
import Derived.Test.YtjghebcnmoojmaaGreatU30
import Derived.Deep.RegionLaw
import Derived.Deep.RegionWith
namespace Go.Proofs.YtjghebcnmoojmaaGreat
set_option maxRecDepth 100000
open Go.RowKit

def stepE (xs : List Int) (r : List (Int × Int) × (Int × Int)) : List (Int × Int) × (Int × Int) :=
 (r.1 ++ [((numS xs 1 r.2).1, (numS xs 4 (numS xs 1 r.2).2).1)], (numS xs 4 (numS xs 1 r.2).2).2)
def itE (xs : List Int) : Nat → List (Int × Int) × (Int × Int) → List (Int × Int) × (Int × Int)
 | 0, r => r
 | n + 1, r => itE xs n (stepE xs r)
theorem itE_succ (xs : List Int) : ∀ (n : Nat) (r : List (Int × Int) × (Int × Int)), itE xs (n + 1) r = stepE xs (itE xs n r)
 | 0, _ => rfl
 | n + 1, r => by rw [itE, itE_succ xs n (stepE xs r), itE]
theorem itE_len (xs : List Int) : ∀ (n : Nat) (r : List (Int × Int) × (Int × Int)), (itE xs n r).1.length = r.1.length + n
 | 0, _ => rfl
 | n + 1, r => by rw [itE_succ, stepE]; simp [itE_len xs n r]; omega
theorem numS_err {xs : List Int} {n p e : Int} (h : e ≠ 0) : numS xs n (p, e) = (0, (p, e)) := by simp [numS, h]
theorem numS_ok (xs : List Int) (n p : Int) : numS xs n (p, 0) = getS xs p n := by simp [numS]
theorem itE_err {xs : List Int} {p e : Int} (h : e ≠ 0) : ∀ (n : Nat) (ys : List (Int × Int)), (itE xs n (ys, (p, e))).2 = (p, e)
 | 0, _ => rfl
 | n + 1, ys => by
  have h1 : stepE xs (ys, (p, e)) = (ys ++ [(0, 0)], (p, e)) := by simp only [stepE, numS_err h]
  rw [itE, h1]
  exact itE_err h n _
structure EP where
 M : Int
 ys : List (Int × Int)
 to : Int
 e : Int
def EP.no (e : Int) : EP := ⟨0, [], 0, e⟩
def eparseF (M : Int) (r : List (Int × Int) × (Int × Int)) : EP := if r.2.2 = 0 then (if BeOk M r.1 then ⟨M, r.1, r.2.1, 0⟩ else .no 4) else .no r.2.2
def eparseS (xs : List Int) (k : Int) : EP :=
 eparseF (numS xs 4 (k, 0)).1 (itE xs (numS xs 1 (numS xs 4 (k, 0)).2).1.toNat ([], (numS xs 1 (numS xs 4 (k, 0)).2).2))
theorem call_num (args : Array Value) (w : World) : (callFunc 31 args).run Tryz.prog w = .ok (.enter 31 args) w := by simp [go_sem]
theorem step_eapp {ops : Array Oper} {o : Oper} {a : Act} {W : World} {K : Act → World → Prop} {Q : Exit → Act → World → Prop} {E : Prop} (hg : o.guard = none) (s x : Operand)
  (ho : o.op = .call { callee := .builtin .append, args := #[s, x], argTypes := #[40, 40] }) (w1 : World) (y1 y2 : Int) (hW : W = w1.alloc (.cells #[.int .i64 y1, .int .i64 y2] 113)) (S : Nat) (v : Value) (xs : List (Int × Int))
  (hs : a.eval s = v) (hx : a.eval x = .slice (some ⟨w1.heap.size, 0, none⟩) 1 1) (hown : OwE w1 S v xs) (hl : xs.length ≤ 3000) (hS : S ≤ w1.heap.size)
  (hK : ∀ g cap w', OwE w' S (.slice (some ⟨g, 0, none⟩) (xs.length + 1) cap) (xs ++ [(y1, y2)]) → Below S w1 w' → K (a.put o.dst (.slice (some ⟨g, 0, none⟩) (xs.length + 1) cap)) w') :
  if Region.wanted o (yielded ops a.tmps) = true then Oper.wp Tryz.prog o a W K Q else E := by
 have hw : Region.wanted o (yielded ops a.tmps) = true := by simp [Region.wanted, hg]
 rw [if_pos hw]
 subst hW
 have hb : Below S w1 (w1.alloc (.cells #[.int .i64 y1, .int .i64 y2] 113)) := (Below.refl S w1).alloc hS _
 obtain ⟨g, cap, w', hr, h2, h3, _⟩ := run_gapp2 RE (w1.alloc (.cells #[.int .i64 y1, .int .i64 y2] 113)) o.type S v xs (gown_below hown ((Below.refl _ _).alloc (Nat.le_refl _) _)) w1.heap.size (y1, y2) (ec_alloc w1 y1 y2) hl (by simp; omega)
 unfold Oper.wp
 rw [gexec_append ho hs hx hr]
 exact hK g cap w' h2 (hb.grown h3 (by simp; omega) (fun k hk => (hown.lt k hk).1))
theorem edV_form (N1 : Int) (ys : List (Int × Int)) (s4 e4 : Int) (a3 : Option Addr) (c3 : Nat) (q : Bool) (hq : q = true ↔ BeOk N1 ys) : ∃ (M9 : Int) (a9 : Option Addr) (l9 c9 : Nat) (t9 e9 : Int),
  bdV e4 q N1 a3 ys.length c3 s4 = .tuple #[.agg #[.int .i64 M9, .slice a9 l9 c9], .int .i64 t9, .int .i64 e9] ∧ M9 = (eparseF N1 (ys, (s4, e4))).M ∧ t9 = (eparseF N1 (ys, (s4, e4))).to ∧ e9 = (eparseF N1 (ys, (s4, e4))).e ∧ ∀ W S, OwE W S (.slice a3 ys.length c3) ys → OwE W S (.slice a9 l9 c9) (eparseF N1 (ys, (s4, e4))).ys := by
 unfold bdV eparseF
 by_cases h0 : e4 = 0
 ·subst h0
  by_cases hb : BeOk N1 ys
  ·obtain rfl : q = true := hq.2 hb
   rw [show needE 0 true = 0 from rfl, if_pos rfl, if_pos rfl, if_pos hb]
   exact ⟨_, _, _, _, _, _, rfl, rfl, rfl, rfl, fun W S h => h⟩
  ·obtain rfl : q = false := by cases q with
    | false => rfl
    | true => exact absurd (hq.1 rfl) hb
   rw [show needE 0 false = 4 from rfl, if_neg (by decide), if_pos rfl, if_neg hb]
   exact ⟨_, _, _, _, _, _, rfl, rfl, rfl, rfl, fun W S h => eown_nil W S⟩
 ·rw [show needE e4 q = e4 by simp [needE, h0], if_neg h0, if_neg h0]
  exact ⟨_, _, _, _, _, _, rfl, rfl, rfl, rfl, fun W S h => eown_nil W S⟩
set_option maxHeartbeats 32000000 in
theorem eparse_any (v : Value) (k : Int) (xs : List Int) (w : World) (hv : Bs w v xs) : Calls Tryz.prog 91 #[v, .int .i64 k] w fun e w' => ∃ r, e = .returned (.tuple #[.agg #[.int .i64 (eparseS xs k).M, r], .int .i64 (eparseS xs k).to, .int .i64 (eparseS xs k).e]) ∧ OwE w' w.heap.size r (eparseS xs k).ys ∧ Below w.heap.size w w' := by
 obtain ⟨a, l, c, rfl⟩ := Bs_form hv
 obtain ⟨N1, s1, e1, h1⟩ : ∃ x y z, numS xs 4 (k, 0) = (x, y, z) := ⟨_, _, _, rfl⟩
 obtain ⟨cn, s2, e2, h2⟩ : ∃ x y z, numS xs 1 (s1, e1) = (x, y, z) := ⟨_, _, _, rfl⟩
 have hcn : 0 ≤ cn ∧ cn ≤ 255 := by have := num1_bd hv.1 (s1, e1); rw [h2] at this; exact this
 obtain ⟨C, rfl⟩ : ∃ C : Nat, cn = C := ⟨cn.toNat, by omega⟩
 have he : eparseS xs k = eparseF N1 (itE xs C ([], (s2, e2))) := by
  unfold eparseS
  simp only [h1, h2, Int.toNat_natCast]
 rw [he]
 clear he
 have HV := Lib.hid hv
 have c1 : ∀ V, Rd V (w.heap.size + 1) k 0 → Bs V (.slice a l c) xs → Calls Tryz.prog 31 #[.pointer (some ⟨(w.heap.size + 1), 0, none⟩), .slice a l c, .int .i64 4] V fun e w' => e = .returned (.int .i64 N1) ∧ Rd w' (w.heap.size + 1) s1 e1 ∧ Onl (w.heap.size + 1) V w' := fun V h hv => by
  have h := number_any (w.heap.size + 1) (.slice a l c) xs 4 k 0 V h hv
  rw [h1] at h
  exact h
 have c2 : ∀ V, Rd V (w.heap.size + 1) s1 e1 → Bs V (.slice a l c) xs → Calls Tryz.prog 31 #[.pointer (some ⟨(w.heap.size + 1), 0, none⟩), .slice a l c, .int .i64 1] V fun e w' => e = .returned (.int .i64 C) ∧ Rd w' (w.heap.size + 1) s2 e2 ∧ Onl (w.heap.size + 1) V w' := fun V h hv => by
  have h := number_any (w.heap.size + 1) (.slice a l c) xs 1 s1 e1 V h hv
  rw [h2] at h
  exact h
 obtain ⟨st, hst⟩ : ∃ st, (([] : List (Int × Int)), (s2, e2)) = st := ⟨_, rfl⟩
 rw [hst]
 have HST := Lib.hid hst
 clear hv h1 h2 hst
 go_enter Tryz.func91, Tryz.ntmps91
 go_wp2_with fail
 refine (new_any _ _).mono ?_
 rintro e _ ⟨rfl, rfl⟩
 go_wp2_with fail
 have OR := Lib.hid ((own2_alloc w 0 (.slice none 0 0) 42 w.heap.size rfl).below ((Below.refl _ _).alloc (Nat.le_refl _) (.cells #[.int .i64 k, .int .i64 0] 89)))
 have R := Lib.hid (rd_alloc (w.alloc (.cells #[.int .i64 0, .slice none 0 0] 42)) k (w.heap.size + 1) (by simp))
 have HB : Hid (Below w.heap.size w ((w.alloc (.cells #[.int .i64 0, .slice none 0 0] 42)).alloc (.cells #[.int .i64 k, .int .i64 0] 89))) := ((Below.refl _ w).alloc (Nat.le_refl _) _).alloc (by simp) _
 generalize ((w.alloc (.cells #[.int .i64 0, .slice none 0 0] 42)).alloc (.cells #[.int .i64 k, .int .i64 0] 89)) = V0 at *
 refine (c1 _ R.out (Bs_below HV.out HB.out)).mono ?_
 rintro e V1 ⟨rfl, hR, ho⟩
 replace OR := Lib.hid (OR.out.onl ho (by omega)); replace HB := Lib.hid (HB.out.trans (ho.below (by omega) HB.out.size)); replace R := Lib.hid hR; clear ho hR
 have HG : Hid ((w.heap.size + 1) < V1.heap.size) := World.block_lt_of_cell? V1 _ R.out.1
 go_wp2_with fail
 have OX := Lib.hid (own2_alloc V1 N1 (.slice none 0 0) 42 V1.heap.size rfl)
 have hb : Below V1.heap.size V1 (V1.alloc (.cells #[.int .i64 N1, .slice none 0 0] 42)) := (Below.refl _ V1).alloc (Nat.le_refl _) _
 replace OR := Lib.hid (OR.out.below hb); replace HB := Lib.hid (HB.out.trans (hb.mono HB.out.size)); replace R := Lib.hid (R.out.below hb); clear hb
 generalize V1.alloc (.cells #[.int .i64 N1, .slice none 0 0] 42) = V2 at *
 obtain ⟨X, hX⟩ : ∃ X, V1.heap.size = X := ⟨_, rfl⟩
 rw [hX] at HG OX
 simp only [hX]
 clear hX
 refine (c2 _ R.out (Bs_below HV.out HB.out)).mono ?_
 rintro e V4 ⟨rfl, hR, ho⟩
 replace OR := Lib.hid (OR.out.onl ho (by omega)); replace OX := Lib.hid (OX.out.onl ho (by have := HG.out; omega)); replace HB := Lib.hid (HB.out.trans (ho.below (by omega) HB.out.size)); replace R := Lib.hid hR; clear ho hR
 have HX : Hid (X < V4.heap.size) := OX.out.lt
 clear c1 c2
 go_wp2_with fail
 obtain ⟨S, hS⟩ : ∃ S, V4.heap.size = S := ⟨_, rfl⟩
 rw [hS] at HX
 have HS : Hid (S ≤ V4.heap.size) := Nat.le_of_eq hS.symm
 clear hS
 have R0 : Hid (Rd V4 (w.heap.size + 1) (itE xs 0 st).2.1 (itE xs 0 st).2.2) := by have h := HST.out; rw [← h]; exact R.out
 have HL0 : Hid ((itE xs 0 st).1 = []) := by have h := HST.out; rw [← h]; rfl
 have HLN : Hid (∀ q, (itE xs q st).1.length = q) := fun q => by have h := HST.out; rw [← h, itE_len]; simp
 clear R HST
 go_loopw [18] (fun i wr => ∃ (q : Nat) (u : Value), q ≤ C ∧ i = .int .i64 q ∧ Rd wr (w.heap.size + 1) (itE xs q st).2.1 (itE xs q st).2.2 ∧ Own2 wr X N1 u ∧ OwE wr S u (itE xs q st).1 ∧ Own2 wr w.heap.size 0 (.slice none 0 0) ∧ Below w.heap.size w wr ∧ S ≤ wr.heap.size) (fun i _ => C - (intOf i).toNat)
 case atStart => exact ⟨0, _, Nat.zero_le _, rfl, R0.out, OX.out, by rw [HL0.out]; exact eown_nil _ _, OR.out, HB.out, HS.out⟩
 case round =>
  obtain ⟨q, u, hq, rfl, hR, hX, hown, hOR, hbel, hSS⟩ := hrel
  have HL := Lib.hid (HLN.out q)
  have HSU := Lib.hid (itE_succ xs q st)
  obtain ⟨⟨ys, s4, e4⟩, hrd⟩ : ∃ r, itE xs q st = r := ⟨_, rfl⟩
  rw [hrd] at hR hown HL HSU
  simp only at hR hown HL HSU
  obtain ⟨a3, c3, rfl⟩ := hown.form
  have R := Lib.hid hR
  have OX := Lib.hid hX
  have OW := Lib.hid hown
  have OR := Lib.hid hOR
  have HB := Lib.hid hbel
  have HS := Lib.hid hSS
  have HRD := Lib.hid hrd
  clear hR hX hown hOR hbel hSS hrd
  have hg1 : (w.heap.size + 1) < X := HG.out
  have hg2 : X < S := HX.out
  have hyl : ys.length ≤ 255 := by have := HL.out; omega
  by_cases hlt : q < C
  ·obtain ⟨y1, s5, e5, hO⟩ : ∃ (y1 s5 e5 : Int), numS xs 1 (s4, e4) = (y1, s5, e5) := ⟨_, _, _, rfl⟩
   obtain ⟨y2, s6, e6, hO2⟩ : ∃ (y2 s6 e6 : Int), numS xs 4 (s5, e5) = (y2, s6, e6) := ⟨_, _, _, rfl⟩
   have cN1 : Calls Tryz.prog 31 #[.pointer (some ⟨(w.heap.size + 1), 0, none⟩), .slice a l c, .int .i64 1] wr.drew fun e w' => ∃ v, e = .returned v ∧ (v = .int .i64 y1 ∧ Rd w' (w.heap.size + 1) s5 e5 ∧ Onl (w.heap.size + 1) wr.drew w') := by
    have h := number_any (w.heap.size + 1) (.slice a l c) xs 1 s4 e4 wr.drew R.out (Bs_below HV.out HB.out.drew)
    rw [hO] at h
    exact h.mono fun e w' ⟨h1, h2, h3⟩ => ⟨_, h1, rfl, h2, h3⟩
   have cN2 : ∀ V, Rd V (w.heap.size + 1) s5 e5 → Bs V (.slice a l c) xs → Calls Tryz.prog 31 #[.pointer (some ⟨(w.heap.size + 1), 0, none⟩), .slice a l c, .int .i64 4] V fun e w' => ∃ v, e = .returned v ∧ (v = .int .i64 y2 ∧ Rd w' (w.heap.size + 1) s6 e6 ∧ Onl (w.heap.size + 1) V w') := fun V hr hb => by
    have h := number_any (w.heap.size + 1) (.slice a l c) xs 4 s5 e5 V hr hb
    rw [hO2] at h
    exact h.mono fun e w' ⟨h1, h2, h3⟩ => ⟨_, h1, rfl, h2, h3⟩
   have HN : Hid (itE xs (q + 1) st = (ys ++ [(y1, y2)], (s6, e6))) := by show _ = _; rw [HSU.out, stepE]; simp only [hO, hO2]
   clear hO hO2 HSU
   have x1 := OX.out.1.2
   go_wp2_with fail
   go_region_law (first
    | (refine step_enter (by rfl) 31 _ (fun v w' => v = .int .i64 y1 ∧ Rd w' (w.heap.size + 1) s5 e5 ∧ Onl (w.heap.size + 1) wr.drew w') (exec_call3 (by rfl) (by rfl) (by rfl) (by rfl) (by rfl) (call_num _ _)) cN1 ?_; rintro v w1 ⟨rfl, hR, ho⟩; clear cN1; have OX1 := Lib.hid ((show Own2 wr.drew X N1 _ from OX.out).onl ho (by omega)); have OR1 := Lib.hid ((show Own2 wr.drew w.heap.size 0 _ from OR.out).onl ho (by omega)); have OW1 : Hid (OwE w1 S (.slice a3 ys.length c3) ys) := own_onl (show OwE wr.drew S _ ys from gown_below OW.out (Below.refl _ _).drew) ho (by omega); have HB1 := Lib.hid (HB.out.drew.trans (ho.below (by omega) HB.out.drew.size)); have HS1 : Hid (S ≤ w1.heap.size) := Nat.le_trans HS.out ho.size; have R1 := Lib.hid hR; clear hR ho; have d1 := OX1.out.1.2)
    | (refine step_enter (by rfl) 31 _ (fun v w' => v = .int .i64 y2 ∧ Rd w' (w.heap.size + 1) s6 e6 ∧ Onl (w.heap.size + 1) w1 w') (exec_call3 (by rfl) (by rfl) (by rfl) (by rfl) (by rfl) (call_num _ _)) (cN2 w1 R1.out (Bs_below HV.out HB1.out)) ?_; rintro v w2 ⟨rfl, hR, ho⟩; clear cN2; have OX2 := Lib.hid (OX1.out.onl ho (by omega)); have OR2 := Lib.hid (OR1.out.onl ho (by omega)); have OW2 : Hid (OwE w2 S (.slice a3 ys.length c3) ys) := own_onl OW1.out ho (by omega); have HB2 := Lib.hid (HB1.out.trans (ho.below (by omega) HB1.out.size)); have HS2 : Hid (S ≤ w2.heap.size) := Nat.le_trans HS1.out ho.size; have R2 := Lib.hid hR; clear hR ho; have d2 := OX2.out.1.2; have d3 := OX2.out.allocs)
    | (refine step_eapp (by rfl) (.tmp 21) (.tmp 29) (by rfl) w2 y1 y2 rfl S _ ys (by rfl) (by rfl) OW2.out (by omega) HS2.out ?_; intro g cap w3 hown hb; have OX3 := Lib.hid (OX2.out.low hg2 hb); have OR3 := Lib.hid (OR2.out.low (S := S) (by omega) hb); have R3 := Lib.hid (R2.out.low (S := S) (by omega) hb); have OW3 := Lib.hid hown; have HB3 := Lib.hid (HB2.out.trans (hb.mono (by omega))); have HS3 : Hid (S ≤ w3.heap.size) := Nat.le_trans HS2.out hb.size; clear hown hb; have f1 := OX3.out.1.2; have f2 := OX3.out.2))
   all_goals
    go_wp2_with fail
    have ho : Onl X w3 (w3.setCell ⟨X, 1, none⟩ (.slice (some ⟨g, 0, none⟩) (ys.length + 1) cap)) := (Onl.refl X w3).set 1 _
    have OX4 := Lib.hid (OX3.out.set1 (.slice (some ⟨g, 0, none⟩) (ys.length + 1) cap))
    have OR4 := Lib.hid (OR3.out.onl ho (by omega))
    have R4 := Lib.hid (R3.out.onl ho (by omega))
    have OW4 : Hid (OwE (w3.setCell ⟨X, 1, none⟩ (.slice (some ⟨g, 0, none⟩) (ys.length + 1) cap)) S (.slice (some ⟨g, 0, none⟩) (ys.length + 1) cap) (ys ++ [(y1, y2)])) := own_onl OW3.out ho hg2
    have HB4 := Lib.hid (HB3.out.trans (ho.below (by omega) HB3.out.size))
    have HS4 : Hid (S ≤ (w3.setCell ⟨X, 1, none⟩ (.slice (some ⟨g, 0, none⟩) (ys.length + 1) cap)).heap.size) := Nat.le_trans HS3.out ho.size
    clear ho
    go_roundw
    case rel => exact ⟨q + 1, _, by omega, by go_num, by rw [HN.out]; exact R4.out, OX4.out, by rw [HN.out]; exact OW4.out, OR4.out, HB4.out, HS4.out⟩
    case measure => simp [intOf]; omega
  ·obtain rfl : q = C := by omega
   clear HSU
   go_wp2_with fail
   replace OX : Hid (Own2 wr.drew X N1 (.slice a3 ys.length c3)) := OX.out
   replace OR : Hid (Own2 wr.drew w.heap.size 0 (.slice none 0 0)) := OR.out
   replace R : Hid (Rd wr.drew (w.heap.size + 1) s4 e4) := R.out
   replace OW : Hid (OwE wr.drew S (.slice a3 ys.length c3) ys) := gown_below OW.out (Below.refl _ _).drew
   replace HB : Hid (Below w.heap.size w wr.drew) := HB.out.drew
   obtain ⟨x0, x1⟩ := (show Own2 wr X N1 (.slice a3 ys.length c3) from OX.out).1
   by_cases hbt : BeOk N1 ys
   ·skip
    have cC : ∀ W, El W (.slice a3 ys.length c3) ys → Calls Tryz.prog 100 #[.agg #[.int .i64 N1, .slice a3 ys.length c3]] W fun e w' => e = .returned (.int .i64 0) ∧ Below W.heap.size W w' := fun W h => check_fix6 N1 _ ys true (by simp [hbt]) W h (by omega)
    obtain ⟨M9, a9, l9, c9, t9, e9, hD, hM, ht, he, hOs⟩ := edV_form N1 ys s4 e4 a3 c3 true (by simp [hbt])
    have cD : ∀ W, Rd W (w.heap.size + 1) s4 e4 → Calls Tryz.prog 111 #[.pointer (some ⟨(w.heap.size + 1), 0, none⟩), .agg #[.int .i64 N1, .slice a3 ys.length c3], .bool true] W fun e w' => e = .returned (.tuple #[.agg #[.int .i64 M9, .slice a9 l9 c9], .int .i64 t9, .int .i64 e9]) ∧ Onl (w.heap.size + 1) W w' := fun W h => by
     have h := edone_any (w.heap.size + 1) N1 a3 ys.length c3 true s4 e4 W h
     rwa [hD] at h
    have HM := Lib.hid hM
    have HT := Lib.hid ht
    have HE := Lib.hid he
    have HO := Lib.hid hOs
    clear hbt hD hM ht he hOs
    go_region_with (first
     | (go_at_call 100; refine (cC _ OW.out.el).mono ?_; rintro e V88 ⟨rfl, hb⟩; replace OX := Lib.hid (OX.out.below hb); replace OR := Lib.hid (OR.out.below hb); replace OW : Hid (OwE V88 S (.slice a3 ys.length c3) ys) := gown_below OW.out hb; replace HB := Lib.hid (HB.out.trans (hb.mono HB.out.size)); replace R := Lib.hid (R.out.below hb); clear hb; clear x0 x1; obtain ⟨x0, x1⟩ := OX.out.1)
     | (go_at_call 111; refine (cD _ R.out).mono ?_; rintro e V99 ⟨rfl, ho⟩; replace OR := Lib.hid (OR.out.onl ho (by omega)); replace OW : Hid (OwE V99 S (.slice a3 ys.length c3) ys) := own_onl OW.out ho (by omega); replace HB := Lib.hid (HB.out.trans (ho.below (by omega) HB.out.size)); clear ho; clear x0 x1; obtain ⟨⟨u0, u1⟩, uf⟩ := OR.out))
    all_goals
     go_wp2_with fail
     have hs := (OR.out.set M9 (.slice a9 l9 c9)).1
     have hbs := bel_set2 (b := w.heap.size) HB.out (Nat.le_refl _) M9 (.slice a9 l9 c9)
     have ho9 : Onl w.heap.size V99 ((V99.setCell ⟨w.heap.size, 0, none⟩ (.int .i64 M9)).setCell ⟨w.heap.size, 1, none⟩ (.slice a9 l9 c9)) := ((Onl.refl _ V99).set 0 _).set 1 _
     have hos := HO.out _ S (own_onl OW.out ho9 (by omega))
     generalize (V99.setCell ⟨w.heap.size, 0, none⟩ (.int .i64 M9)).setCell ⟨w.heap.size, 1, none⟩ (.slice a9 l9 c9) = W5 at *
     obtain ⟨s0_, s1_⟩ := hs
     exact bodyPost_ret (v := .tuple #[.agg #[.int .i64 M9, .slice a9 l9 c9], .int .i64 t9, .int .i64 e9]) (by simp [results, Tryz.results91, go_sem, s0_, s1_]) rfl ⟨.slice a9 l9 c9, by rw [HRD.out, ← HM.out, ← HT.out, ← HE.out], by rw [HRD.out]; exact hos.mono (by omega), hbs⟩
   ·skip
    have cC : ∀ W, El W (.slice a3 ys.length c3) ys → Calls Tryz.prog 100 #[.agg #[.int .i64 N1, .slice a3 ys.length c3]] W fun e w' => e = .returned (.int .i64 1) ∧ Below W.heap.size W w' := fun W h => check_fix6 N1 _ ys false (by simp [hbt]) W h (by omega)
    obtain ⟨M9, a9, l9, c9, t9, e9, hD, hM, ht, he, hOs⟩ := edV_form N1 ys s4 e4 a3 c3 false (by simp [hbt])
    have cD : ∀ W, Rd W (w.heap.size + 1) s4 e4 → Calls Tryz.prog 111 #[.pointer (some ⟨(w.heap.size + 1), 0, none⟩), .agg #[.int .i64 N1, .slice a3 ys.length c3], .bool false] W fun e w' => e = .returned (.tuple #[.agg #[.int .i64 M9, .slice a9 l9 c9], .int .i64 t9, .int .i64 e9]) ∧ Onl (w.heap.size + 1) W w' := fun W h => by
     have h := edone_any (w.heap.size + 1) N1 a3 ys.length c3 false s4 e4 W h
     rwa [hD] at h
    have HM := Lib.hid hM
    have HT := Lib.hid ht
    have HE := Lib.hid he
    have HO := Lib.hid hOs
    clear hbt hD hM ht he hOs
    go_region_with (first
     | (go_at_call 100; refine (cC _ OW.out.el).mono ?_; rintro e V88 ⟨rfl, hb⟩; replace OX := Lib.hid (OX.out.below hb); replace OR := Lib.hid (OR.out.below hb); replace OW : Hid (OwE V88 S (.slice a3 ys.length c3) ys) := gown_below OW.out hb; replace HB := Lib.hid (HB.out.trans (hb.mono HB.out.size)); replace R := Lib.hid (R.out.below hb); clear hb; clear x0 x1; obtain ⟨x0, x1⟩ := OX.out.1)
     | (go_at_call 111; refine (cD _ R.out).mono ?_; rintro e V99 ⟨rfl, ho⟩; replace OR := Lib.hid (OR.out.onl ho (by omega)); replace OW : Hid (OwE V99 S (.slice a3 ys.length c3) ys) := own_onl OW.out ho (by omega); replace HB := Lib.hid (HB.out.trans (ho.below (by omega) HB.out.size)); clear ho; clear x0 x1; obtain ⟨⟨u0, u1⟩, uf⟩ := OR.out))
    all_goals
     go_wp2_with fail
     have hs := (OR.out.set M9 (.slice a9 l9 c9)).1
     have hbs := bel_set2 (b := w.heap.size) HB.out (Nat.le_refl _) M9 (.slice a9 l9 c9)
     have ho9 : Onl w.heap.size V99 ((V99.setCell ⟨w.heap.size, 0, none⟩ (.int .i64 M9)).setCell ⟨w.heap.size, 1, none⟩ (.slice a9 l9 c9)) := ((Onl.refl _ V99).set 0 _).set 1 _
     have hos := HO.out _ S (own_onl OW.out ho9 (by omega))
     generalize (V99.setCell ⟨w.heap.size, 0, none⟩ (.int .i64 M9)).setCell ⟨w.heap.size, 1, none⟩ (.slice a9 l9 c9) = W5 at *
     obtain ⟨s0_, s1_⟩ := hs
     exact bodyPost_ret (v := .tuple #[.agg #[.int .i64 M9, .slice a9 l9 c9], .int .i64 t9, .int .i64 e9]) (by simp [results, Tryz.results91, go_sem, s0_, s1_]) rfl ⟨.slice a9 l9 c9, by rw [HRD.out, ← HM.out, ← HT.out, ← HE.out], by rw [HRD.out]; exact hos.mono (by omega), hbs⟩
end Go.Proofs.YtjghebcnmoojmaaGreat
