/- Frames that are compared: the reference's Same. No conditions but on lengths. A frame's bytes, as the document says them. No conditions but on lengths. What Parse answers of a frame. No conditions. -/
import Derived.Test.YtjghebcnmoojmaaGreatU35
namespace Go.Proofs.YtjghebcnmoojmaaGreat
set_option maxRecDepth 100000
open Go.RowKit

theorem samept_fix (r r' : RPt) (p p' : Pt) (q : Bool) (hq : q = true ↔ p = p') (w : World) (h : r.Rd w p) (h' : r'.Rd w p') (hl : PtFew p) :
  Calls Tryz.prog 37 #[.agg #[.int .i64 r.k, .int .i64 r.be, .slice r.a1 r.l1 r.c1, .int .i64 r.bn, .slice r.a2 r.l2 r.c2, .slice r.a3 r.l3 r.c3, .int .i64 r.s, .int .i64 r.d, .int .i64 r.t, .int .i64 r.n, .string r.x], .agg #[.int .i64 r'.k, .int .i64 r'.be, .slice r'.a1 r'.l1 r'.c1, .int .i64 r'.bn, .slice r'.a2 r'.l2 r'.c2, .slice r'.a3 r'.l3 r'.c3, .int .i64 r'.s, .int .i64 r'.d, .int .i64 r'.t, .int .i64 r'.n, .string r'.x]] w fun e w' => e = .returned (.bool q) ∧ Below w.heap.size w w' :=
 (samept_any r r' p p' w h h' hl).mono fun e w' ⟨⟨b, h1, h2⟩, h3⟩ => ⟨by rw [h1, show b = q by rw [Bool.eq_iff_iff]; exact h2.trans hq.symm], h3⟩
theorem ps_ext {ps qs : List Pt} (hl : ps.length = qs.length) (h : ∀ i, i < ps.length → ps.getD i zPt = qs.getD i zPt) : ps = qs := by
 apply List.ext_getElem hl
 intro i h1 h2
 have := h i h1
 simpa [List.getD, h1, h2] using this
def FrV (w : World) (v : Value) (f : Fr) : Prop := ∃ a c, v = .agg #[.int .i64 f.fr, .int .i64 f.ep, .int .i64 f.to, .int .i64 f.pe, .slice a f.ps.length c] ∧ Ps w (.slice a f.ps.length c) f.ps
theorem FrV.below {w w' : World} {v : Value} {f : Fr} (h : FrV w v f) (hb : Below w.heap.size w w') : FrV w' v f := by
 obtain ⟨a, c, h1, h2⟩ := h
 exact ⟨a, c, h1, h2.below hb⟩
def FrFew (f : Fr) : Prop := f.ps.length ≤ 1000 ∧ ∀ i, i < f.ps.length → PtFew (f.ps.getD i zPt)
set_option maxHeartbeats 16000000 in
theorem frsame_walk (fr ep to pe fr' ep' to' pe' : Int) (a a' : Option Addr) (c c' : Nat) (ps qs : List Pt) (w : World) (h : Ps w (.slice a ps.length c) ps) (h' : Ps w (.slice a' qs.length c') qs) (hf : ∀ i, i < ps.length → PtFew (ps.getD i zPt)) (hl : ps.length ≤ 1000) :
  Calls Tryz.prog 20 #[.agg #[.int .i64 fr, .int .i64 ep, .int .i64 to, .int .i64 pe, .slice a ps.length c], .agg #[.int .i64 fr', .int .i64 ep', .int .i64 to', .int .i64 pe', .slice a' qs.length c']] w fun e w' => (∃ b : Bool, e = .returned (.bool b) ∧ (b = true ↔ fr = fr' ∧ ep = ep' ∧ to = to' ∧ pe = pe' ∧ ps = qs)) ∧ Below w.heap.size w w' := by
 have OA := Lib.hid ((ownf_alloc w fr ep to pe (.slice a ps.length c) 24 w.heap.size rfl).below ((Below.refl _ _).alloc (Nat.le_refl _) (.cells #[.int .i64 fr', .int .i64 ep', .int .i64 to', .int .i64 pe', .slice a' qs.length c'] 24)))
 have OB := Lib.hid (ownf_alloc (w.alloc (.cells #[.int .i64 fr, .int .i64 ep, .int .i64 to, .int .i64 pe, .slice a ps.length c] 24)) fr' ep' to' pe' (.slice a' qs.length c') 24 (w.heap.size + 1) (by simp))
 have HB : Hid (Below w.heap.size w ((w.alloc (.cells #[.int .i64 fr, .int .i64 ep, .int .i64 to, .int .i64 pe, .slice a ps.length c] 24)).alloc (.cells #[.int .i64 fr', .int .i64 ep', .int .i64 to', .int .i64 pe', .slice a' qs.length c'] 24))) := ((Below.refl _ w).alloc (Nat.le_refl _) _).alloc (by simp) _
 have HX := Lib.hid (h.below HB.out)
 have HZ := Lib.hid (h'.below HB.out)
 have HI := Lib.hid hf
 have HL0 := Lib.hid hl
 clear h h' hf hl
 by_cases h0 : fr = fr'
 ·skip
  have h0' : (fr != fr') = false := by simpa using h0
  by_cases h1 : to = to'
  ·skip
   have h1' : (to != to') = false := by simpa using h1
   by_cases h2 : ep = ep'
   ·skip
    have h2' : (ep != ep') = false := by simpa using h2
    by_cases h3 : pe = pe'
    ·skip
     have h3' : (pe != pe') = false := by simpa using h3
     by_cases h4 : ps.length = qs.length
     ·skip
      have h4' : ((ps.length : Int) != (qs.length : Int)) = false := by simp [h4]
      have HN := Lib.hid h4
      have HE : Hid (fr = fr' ∧ ep = ep' ∧ to = to' ∧ pe = pe') := ⟨h0, h2, h1, h3⟩
      clear h4 h0 h1 h2 h3
      obtain ⟨⟨u0, u1, u2, u3, u4⟩, -⟩ := OA.out
      obtain ⟨⟨v0, v1, v2, v3, v4⟩, -⟩ := OB.out
      obtain ⟨g1, hg1⟩ : ∃ g, w.heap.size = g := ⟨_, rfl⟩
      go_enter Tryz.func20, Tryz.ntmps20
      go_wp2_with fail
      clear u0 u1 u2 u3 u4 v0 v1 v2 v3 v4
      obtain ⟨V, hV⟩ : ∃ V, (w.alloc (.cells #[.int .i64 fr, .int .i64 ep, .int .i64 to, .int .i64 pe, .slice a ps.length c] 24)).alloc (.cells #[.int .i64 fr', .int .i64 ep', .int .i64 to', .int .i64 pe', .slice a' qs.length c'] 24) = V := ⟨_, rfl⟩
      rw [hV] at HX HZ HB OA OB
      try rw [hV]
      go_loopw [5] (fun i wr => ∃ k : Nat, k ≤ ps.length ∧ i = .int .i64 k ∧ (∀ i, i < k → ps.getD i zPt = qs.getD i zPt) ∧ Below V.heap.size V wr) (fun i _ => ps.length - (intOf i).toNat)
      case atStart => exact ⟨0, Nat.zero_le _, rfl, fun i h => absurd h (Nat.not_lt_zero _), Below.refl _ _⟩
      case round =>
       obtain ⟨k, hk, rfl, hsame, hbel⟩ := hrel
       have HS := Lib.hid hsame
       have HV := Lib.hid (HB.out.trans (hbel.mono HB.out.size))
       have OA' := Lib.hid (OA.out.below hbel)
       have OB' := Lib.hid (OB.out.below hbel)
       have HBV := Lib.hid hbel
       have hX := HX.out.below hbel
       have hZ := HZ.out.below hbel
       clear hsame hbel
       obtain ⟨wo, hwo⟩ : ∃ wo, wo = wr := ⟨_, rfl⟩
       subst hwo
       obtain ⟨⟨u0, u1, u2, u3, u4⟩, -⟩ := OA'.out
       obtain ⟨⟨v0, v1, v2, v3, v4⟩, -⟩ := OB'.out
       by_cases hlt : k < ps.length
       ·obtain ⟨b, off, r, rfl, hb1, x, hr⟩ := hX.at hlt
        have hlt2 : k < qs.length := by have := HN.out; omega
        obtain ⟨b2, off2, r2, rfl, hb2, y, hr2⟩ := hZ.at hlt2
        have HF := Lib.hid (HI.out k hlt)
        obtain ⟨p1, hp1⟩ : ∃ p, ps.getD k zPt = p := ⟨_, rfl⟩
        obtain ⟨p2, hp2⟩ : ∃ p, qs.getD k zPt = p := ⟨_, rfl⟩
        rw [hp1] at hr HF
        rw [hp2] at hr2
        have HK := Lib.hid hp1
        have HK2 := Lib.hid hp2
        obtain ⟨q, hq⟩ : ∃ q : Bool, (q = true ↔ p1 = p2) := by
         rcases Classical.em (p1 = p2) with h | h
         ·exact ⟨true, by simp [h]⟩
         ·exact ⟨false, by simp [h]⟩
        have cS : ∀ w', Below wo.heap.size wo w' → Calls Tryz.prog 37 #[.agg #[.int .i64 r.k, .int .i64 r.be, .slice r.a1 r.l1 r.c1, .int .i64 r.bn, .slice r.a2 r.l2 r.c2, .slice r.a3 r.l3 r.c3, .int .i64 r.s, .int .i64 r.d, .int .i64 r.t, .int .i64 r.n, .string r.x], .agg #[.int .i64 r2.k, .int .i64 r2.be, .slice r2.a1 r2.l1 r2.c1, .int .i64 r2.bn, .slice r2.a2 r2.l2 r2.c2, .slice r2.a3 r2.l3 r2.c3, .int .i64 r2.s, .int .i64 r2.d, .int .i64 r2.t, .int .i64 r2.n, .string r2.x]] w' fun e w'' => e = .returned (.bool q) ∧ Below w'.heap.size w' w'' := fun w' h => samept_fix r r2 p1 p2 q hq w' (hr.below h) (hr2.below h) HF.out
        have HQ := Lib.hid hq
        have ou : wo.cell? ⟨g1, 4, none⟩ = some (.slice (some ⟨b, off, none⟩) ps.length c) := by rw [← hg1]; exact u4
        have ov : wo.cell? ⟨g1 + 1, 4, none⟩ = some (.slice (some ⟨b2, off2, none⟩) qs.length c') := by rw [← hg1]; exact v4
        have kc : ∀ w', Below wo.heap.size wo w' → (w'.cell? ⟨g1, 4, none⟩ = some (.slice (some ⟨b, off, none⟩) ps.length c) ∧ w'.cell? ⟨g1 + 1, 4, none⟩ = some (.slice (some ⟨b2, off2, none⟩) qs.length c')) ∧ C11 w' b (off + k * 11) r ∧ C11 w' b2 (off2 + k * 11) r2 := fun w' h =>
         ⟨⟨(h.cell (World.block_lt_of_cell? wo _ ou)).trans ou, (h.cell (World.block_lt_of_cell? wo _ ov)).trans ov⟩, x.below h, y.below h⟩
        simp only [C11] at kc
        have hk9 : (ps.length : Int) ≤ 1000 := by have := HL0.out; omega
        have hk0 : (0 : Int) ≤ (k : Int) := by omega
        have hk1 : (k : Int) < (ps.length : Int) := by omega
        have hk2 : (k : Int) < (qs.length : Int) := by omega
        have hkn : ((k : Int)).toNat = k := Int.toNat_natCast k
        clear hr hr2 hp1 hp2 hq x y ou ov
        rw [hg1] at u0 u1 u2 u3 u4 v0 v1 v2 v3 v4
        try rw [hg1]
        go_wp2_with fail
        clear u0 u1 u2 u3 u4 v0 v1 v2 v3 v4
        refine wp_region_typed (C := fun w' => Below wo.heap.size wo w') (X := fun w w' => Below w.heap.size w w') (n := 60) (by kernel_rfl) (by kernel_rfl) rfl (fun w => Below.refl _ w) (Below.refl _ _).drew ?_
        refine w_is (fun w => Below.refl _ w) _ (.inl rfl) (fun ρ w hC hc hfn hf => by have e2 : ρ (.tmp 2) = _ := hf 2 (by decide); (conv => lhs; simp [execOp, go_sem, hc, e2])) ?_
        refine w_is (fun w => Below.refl _ w) _ (.inl rfl) (fun ρ w hC hc hfn hf => by have e48 : ρ (.tmp 48) = _ := hf 48 (by decide); (conv => lhs; simp [execOp, go_sem, hc, e48, kc w hC])) ?_
        refine w_is (fun w => Below.refl _ w) _ (.inl rfl) (fun ρ w hC hc hfn hf => by have e5 : ρ (.tmp 5) = _ := hf 5 (by decide); (conv => lhs; simp [execOp, go_sem, hc, e5])) ?_
        refine w_is (fun w => Below.refl _ w) _ (.inl rfl) (fun ρ w hC hc hfn hf => by have e49 : ρ (.tmp 49) = _ := hf 49 (by decide); have e50 : ρ (.tmp 50) = _ := hf 50 (by decide); (conv => lhs; simp [execOp, go_sem, hc, e49, e50, hk0, hk1, hkn])) ?_
        refine w_is (fun w => Below.refl _ w) _ (.inl rfl) (fun ρ w hC hc hfn hf => by have e51 : ρ (.tmp 51) = _ := hf 51 (by decide); (conv => lhs; simp [execOp, go_sem, hc, e51, kc w hC])) ?_
        refine w_is (fun w => Below.refl _ w) _ (.inl rfl) (fun ρ w hC hc hfn hf => by have e3 : ρ (.tmp 3) = _ := hf 3 (by decide); (conv => lhs; simp [execOp, go_sem, hc, e3])) ?_
        refine w_is (fun w => Below.refl _ w) _ (.inl rfl) (fun ρ w hC hc hfn hf => by have e53 : ρ (.tmp 53) = _ := hf 53 (by decide); (conv => lhs; simp [execOp, go_sem, hc, e53, kc w hC])) ?_
        refine w_is (fun w => Below.refl _ w) _ (.inl rfl) (fun ρ w hC hc hfn hf => by have e5 : ρ (.tmp 5) = _ := hf 5 (by decide); (conv => lhs; simp [execOp, go_sem, hc, e5])) ?_
        refine w_is (fun w => Below.refl _ w) _ (.inl rfl) (fun ρ w hC hc hfn hf => by have e54 : ρ (.tmp 54) = _ := hf 54 (by decide); have e55 : ρ (.tmp 55) = _ := hf 55 (by decide); (conv => lhs; simp [execOp, go_sem, hc, e54, e55, hk0, hk2, hkn])) ?_
        refine w_is (fun w => Below.refl _ w) _ (.inl rfl) (fun ρ w hC hc hfn hf => by have e56 : ρ (.tmp 56) = _ := hf 56 (by decide); (conv => lhs; simp [execOp, go_sem, hc, e56, kc w hC])) ?_
        refine w_call (Is _) (fun _ _ _ h _ => h) 37 (.inl rfl) (fun ρ w hC hc hfn hf => by have e52 : ρ (.tmp 52) = _ := hf 52 (by decide); have e57 : ρ (.tmp 57) = _ := hf 57 (by decide); exact ⟨_, by (conv => lhs; simp [execOp, resolve, invoke, go_sem, hc, hfn, e52, e57]), tc_below hC (cS w hC)⟩) ?_
        refine w_is (fun w => Below.refl _ w) _ (.inl rfl) (fun ρ w hC hc hfn hf => by have e58 : ρ (.tmp 58) = _ := hf 58 (by decide); (conv => lhs; simp [execOp, go_sem, hc, e58])) ?_
        intro A V5 hC hn hd hf
        have y0 : A.eval (.tmp 0) = _ := Eq.trans (hf 0) (by conv => lhs; simp [go_sem])
        have y1 : A.eval (.tmp 1) = _ := Eq.trans (hf 1) (by conv => lhs; simp [go_sem])
        have y2 : A.eval (.tmp 2) = _ := Eq.trans (hf 2) (by conv => lhs; simp [go_sem])
        have y3 : A.eval (.tmp 3) = _ := Eq.trans (hf 3) (by conv => lhs; simp [go_sem])
        have y4 : A.eval (.tmp 4) = _ := Eq.trans (hf 4) (by conv => lhs; simp [go_sem])
        have y5 : A.eval (.tmp 5) = _ := Eq.trans (hf 5) (by conv => lhs; simp [go_sem])
        have y6 : A.eval (.tmp 6) = _ := Eq.trans (hf 6) (by conv => lhs; simp [go_sem])
        have y7 : A.eval (.tmp 7) = _ := Eq.trans (hf 7) (by conv => lhs; simp [go_sem])
        have y8 : A.eval (.tmp 8) = _ := Eq.trans (hf 8) (by conv => lhs; simp [go_sem])
        have y9 : A.eval (.tmp 9) = _ := Eq.trans (hf 9) (by conv => lhs; simp [go_sem])
        have y10 : A.eval (.tmp 10) = _ := Eq.trans (hf 10) (by conv => lhs; simp [go_sem])
        have y11 : A.eval (.tmp 11) = _ := Eq.trans (hf 11) (by conv => lhs; simp [go_sem])
        have y12 : A.eval (.tmp 12) = _ := Eq.trans (hf 12) (by conv => lhs; simp [go_sem])
        have y13 : A.eval (.tmp 13) = _ := Eq.trans (hf 13) (by conv => lhs; simp [go_sem])
        have y14 : A.eval (.tmp 14) = _ := Eq.trans (hf 14) (by conv => lhs; simp [go_sem])
        have y15 : A.eval (.tmp 15) = _ := Eq.trans (hf 15) (by conv => lhs; simp [go_sem])
        have y16 : A.eval (.tmp 16) = _ := Eq.trans (hf 16) (by conv => lhs; simp [go_sem])
        have y17 : A.eval (.tmp 17) = _ := Eq.trans (hf 17) (by conv => lhs; simp [go_sem])
        have y18 : A.eval (.tmp 18) = _ := Eq.trans (hf 18) (by conv => lhs; simp [go_sem])
        have y19 : A.eval (.tmp 19) = _ := Eq.trans (hf 19) (by conv => lhs; simp [go_sem])
        have y20 : A.eval (.tmp 20) = _ := Eq.trans (hf 20) (by conv => lhs; simp [go_sem])
        have y21 : A.eval (.tmp 21) = _ := Eq.trans (hf 21) (by conv => lhs; simp [go_sem])
        have y22 : A.eval (.tmp 22) = _ := Eq.trans (hf 22) (by conv => lhs; simp [go_sem])
        have y23 : A.eval (.tmp 23) = _ := Eq.trans (hf 23) (by conv => lhs; simp [go_sem])
        have y24 : A.eval (.tmp 24) = _ := Eq.trans (hf 24) (by conv => lhs; simp [go_sem])
        have y25 : A.eval (.tmp 25) = _ := Eq.trans (hf 25) (by conv => lhs; simp [go_sem])
        have y26 : A.eval (.tmp 26) = _ := Eq.trans (hf 26) (by conv => lhs; simp [go_sem])
        have y27 : A.eval (.tmp 27) = _ := Eq.trans (hf 27) (by conv => lhs; simp [go_sem])
        have y28 : A.eval (.tmp 28) = _ := Eq.trans (hf 28) (by conv => lhs; simp [go_sem])
        have y29 : A.eval (.tmp 29) = _ := Eq.trans (hf 29) (by conv => lhs; simp [go_sem])
        have y30 : A.eval (.tmp 30) = _ := Eq.trans (hf 30) (by conv => lhs; simp [go_sem])
        have y31 : A.eval (.tmp 31) = _ := Eq.trans (hf 31) (by conv => lhs; simp [go_sem])
        have y32 : A.eval (.tmp 32) = _ := Eq.trans (hf 32) (by conv => lhs; simp [go_sem])
        have y33 : A.eval (.tmp 33) = _ := Eq.trans (hf 33) (by conv => lhs; simp [go_sem])
        have y34 : A.eval (.tmp 34) = _ := Eq.trans (hf 34) (by conv => lhs; simp [go_sem])
        have y35 : A.eval (.tmp 35) = _ := Eq.trans (hf 35) (by conv => lhs; simp [go_sem])
        have y36 : A.eval (.tmp 36) = _ := Eq.trans (hf 36) (by conv => lhs; simp [go_sem])
        have y37 : A.eval (.tmp 37) = _ := Eq.trans (hf 37) (by conv => lhs; simp [go_sem])
        have y38 : A.eval (.tmp 38) = _ := Eq.trans (hf 38) (by conv => lhs; simp [go_sem])
        have y39 : A.eval (.tmp 39) = _ := Eq.trans (hf 39) (by conv => lhs; simp [go_sem])
        have y40 : A.eval (.tmp 40) = _ := Eq.trans (hf 40) (by conv => lhs; simp [go_sem])
        have y41 : A.eval (.tmp 41) = _ := Eq.trans (hf 41) (by conv => lhs; simp [go_sem])
        have y42 : A.eval (.tmp 42) = _ := Eq.trans (hf 42) (by conv => lhs; simp [go_sem])
        have y43 : A.eval (.tmp 43) = _ := Eq.trans (hf 43) (by conv => lhs; simp [go_sem])
        have y44 : A.eval (.tmp 44) = _ := Eq.trans (hf 44) (by conv => lhs; simp [go_sem])
        have y45 : A.eval (.tmp 45) = _ := Eq.trans (hf 45) (by conv => lhs; simp [go_sem])
        have y46 : A.eval (.tmp 46) = _ := Eq.trans (hf 46) (by conv => lhs; simp [go_sem])
        have y47 : A.eval (.tmp 47) = _ := Eq.trans (hf 47) (by conv => lhs; simp [go_sem])
        have y48 : A.eval (.tmp 48) = _ := hf 48
        have y49 : A.eval (.tmp 49) = _ := hf 49
        have y50 : A.eval (.tmp 50) = _ := hf 50
        have y51 : A.eval (.tmp 51) = _ := hf 51
        have y52 : A.eval (.tmp 52) = _ := hf 52
        have y53 : A.eval (.tmp 53) = _ := hf 53
        have y54 : A.eval (.tmp 54) = _ := hf 54
        have y55 : A.eval (.tmp 55) = _ := hf 55
        have y56 : A.eval (.tmp 56) = _ := hf 56
        have y57 : A.eval (.tmp 57) = _ := hf 57
        have y58 : A.eval (.tmp 58) = _ := hf 58
        have y59 : A.eval (.tmp 59) = _ := hf 59
        clear hf
        have hA := frame_eq hn
        rw [show List.range 60 = [0, 1, 2, 3, 4, 5, 6, 7, 8, 9, 10, 11, 12, 13, 14, 15, 16, 17, 18, 19, 20, 21, 22, 23, 24, 25, 26, 27, 28, 29, 30, 31, 32, 33, 34, 35, 36, 37, 38, 39, 40, 41, 42, 43, 44, 45, 46, 47, 48, 49, 50, 51, 52, 53, 54, 55, 56, 57, 58, 59] from rfl, hd] at hA
        simp only [List.map_cons, List.map_nil, y0, y1, y2, y3, y4, y5, y6, y7, y8, y9, y10, y11, y12, y13, y14, y15, y16, y17, y18, y19, y20, y21, y22, y23, y24, y25, y26, y27, y28, y29, y30, y31, y32, y33, y34, y35, y36, y37, y38, y39, y40, y41, y42, y43, y44, y45, y46, y47, y48, y49, y50, y51, y52, y53, y54, y55, y56, y57, y58, y59] at hA
        clear y0 y1 y2 y3 y4 y5 y6 y7 y8 y9 y10 y11 y12 y13 y14 y15 y16 y17 y18 y19 y20 y21 y22 y23 y24 y25 y26 y27 y28 y29 y30 y31 y32 y33 y34 y35 y36 y37 y38 y39 y40 y41 y42 y43 y44 y45 y46 y47 y48 y49 y50 y51 y52 y53 y54 y55 y56 y57 y58 y59
        clear hn hd
        subst hA
        cases q with
        | true =>
         go_wp2_with fail
         go_roundw
         case rel =>
          refine ⟨k + 1, by omega, by go_num, fun i hi => ?_, HBV.out.trans (hC.mono HBV.out.size)⟩
          by_cases h : i < k
          ·exact HS.out i h
          ·obtain rfl : i = k := by omega
           rw [HK.out, HK2.out]; exact HQ.out.1 rfl
         case measure => simp [intOf]; omega
        | false =>
         go_wp2_with fail
         go_ret
         refine ⟨⟨_, rfl, fun h => (by cases h), fun h => ?_⟩, HV.out.trans (hC.mono HV.out.size)⟩
         have e : p1 = p2 := by rw [← HK.out, ← HK2.out, h.2.2.2.2]
         exact HQ.out.2 e
       ·obtain rfl : k = ps.length := by omega
        rw [hg1] at u0 u1 u2 u3 u4 v0 v1 v2 v3 v4
        go_wp2_with fail
        go_ret
        exact ⟨⟨_, rfl, fun _ => ⟨HE.out.1, HE.out.2.1, HE.out.2.2.1, HE.out.2.2.2, ps_ext HN.out HS.out⟩, fun _ => rfl⟩, HV.out⟩
     ·skip
      have h4' : ((ps.length : Int) != (qs.length : Int)) = true := by simp only [bne_iff_ne, ne_eq]; omega
      have HNO := Lib.hid h4
      clear h4 h0 h1 h2 h3
      obtain ⟨⟨u0, u1, u2, u3, u4⟩, -⟩ := OA.out
      obtain ⟨⟨v0, v1, v2, v3, v4⟩, -⟩ := OB.out
      go_enter Tryz.func20, Tryz.ntmps20
      go_wp2_with fail
      go_ret
      exact ⟨⟨_, rfl, fun h => (by cases h), fun h => absurd (by rw [h.2.2.2.2]) HNO.out⟩, HB.out⟩
    ·skip
     have h3' : (pe != pe') = true := by simpa using h3
     have HNO := Lib.hid h3
     clear h3 h0 h1 h2
     obtain ⟨⟨u0, u1, u2, u3, u4⟩, -⟩ := OA.out
     obtain ⟨⟨v0, v1, v2, v3, v4⟩, -⟩ := OB.out
     go_enter Tryz.func20, Tryz.ntmps20
     go_wp2_with fail
     go_ret
     exact ⟨⟨_, rfl, fun h => (by cases h), fun h => absurd h.2.2.2.1 HNO.out⟩, HB.out⟩
   ·skip
    have h2' : (ep != ep') = true := by simpa using h2
    have HNO := Lib.hid h2
    clear h2 h0 h1
    obtain ⟨⟨u0, u1, u2, u3, u4⟩, -⟩ := OA.out
    obtain ⟨⟨v0, v1, v2, v3, v4⟩, -⟩ := OB.out
    go_enter Tryz.func20, Tryz.ntmps20
    go_wp2_with fail
    go_ret
    exact ⟨⟨_, rfl, fun h => (by cases h), fun h => absurd h.2.1 HNO.out⟩, HB.out⟩
  ·skip
   have h1' : (to != to') = true := by simpa using h1
   have HNO := Lib.hid h1
   clear h1 h0
   obtain ⟨⟨u0, u1, u2, u3, u4⟩, -⟩ := OA.out
   obtain ⟨⟨v0, v1, v2, v3, v4⟩, -⟩ := OB.out
   go_enter Tryz.func20, Tryz.ntmps20
   go_wp2_with fail
   go_ret
   exact ⟨⟨_, rfl, fun h => (by cases h), fun h => absurd h.2.2.1 HNO.out⟩, HB.out⟩
 ·skip
  have h0' : (fr != fr') = true := by simpa using h0
  have HNO := Lib.hid h0
  clear h0
  obtain ⟨⟨u0, u1, u2, u3, u4⟩, -⟩ := OA.out
  obtain ⟨⟨v0, v1, v2, v3, v4⟩, -⟩ := OB.out
  go_enter Tryz.func20, Tryz.ntmps20
  go_wp2_with fail
  go_ret
  exact ⟨⟨_, rfl, fun h => (by cases h), fun h => absurd h.1 HNO.out⟩, HB.out⟩
theorem frsame_any (v v' : Value) (f f' : Fr) (w : World) (h : FrV w v f) (h' : FrV w v' f') (hf : FrFew f) :
  Calls Tryz.prog 20 #[v, v'] w fun e w' => (∃ b : Bool, e = .returned (.bool b) ∧ (b = true ↔ f = f')) ∧ Below w.heap.size w w' := by
 obtain ⟨a, c, rfl, h1⟩ := h
 obtain ⟨a', c', rfl, h2⟩ := h'
 refine (frsame_walk f.fr f.ep f.to f.pe f'.fr f'.ep f'.to f'.pe a a' c c' f.ps f'.ps w h1 h2 hf.2 hf.1).mono fun e w' ⟨⟨b, h3, h4⟩, h5⟩ => ⟨⟨b, h3, h4.trans ?_⟩, h5⟩
 cases f; cases f'
 simp only [Fr.mk.injEq]
end Go.Proofs.YtjghebcnmoojmaaGreat

namespace Go.Proofs.YtjghebcnmoojmaaGreat
set_option maxRecDepth 100000
open Go.RowKit

def frL (fr ep to pe : Int) (ps : List Pt) : List Int := if FrOk fr ep to pe ps then frB fr ep to pe ps else []
def frK (fr ep to pe : Int) (ps : List Pt) : Int := if FrOk fr ep to pe ps then 0 else 1
def RetF (w : World) (fr ep to pe : Int) (ps : List Pt) (e : Ending) (w' : World) : Prop :=
 (∃ a c, e = .returned (.tuple #[.slice a (frL fr ep to pe ps).length c, .int .i64 (frK fr ep to pe ps)]) ∧ Bs w' (.slice a (frL fr ep to pe ps).length c) (frL fr ep to pe ps) ∧ (frL fr ep to pe ps).length ≤ c ∧ (FrOk fr ep to pe ps → w'.ownsRow w.heap.size 5 1 (.slice a (frL fr ep to pe ps).length c) (frL fr ep to pe ps).length ((frL fr ep to pe ps).map (Value.int .u8)))) ∧ Below w.heap.size w w'
theorem retf_no {w w' : World} {fr ep to pe : Int} {ps : List Pt} (h : ¬ FrOk fr ep to pe ps) (hb : Below w.heap.size w w') : RetF w fr ep to pe ps (.returned (.tuple #[.slice none 0 0, .int .i64 1])) w' := by
 unfold RetF frL frK
 rw [if_neg h, if_neg h]
 exact ⟨⟨none, 0, rfl, Bs_nil w', Nat.le_refl _, fun h' => absurd h' h⟩, hb⟩
theorem retf_ok {w w' : World} {fr ep to pe : Int} {ps : List Pt} {v : Value} (h : FrOk fr ep to pe ps) (ho : w'.ownsRow w.heap.size 5 1 v (frB fr ep to pe ps).length ((frB fr ep to pe ps).map (Value.int .u8))) (hb : Below w.heap.size w w') : RetF w fr ep to pe ps (.returned (.tuple #[v, .int .i64 0])) w' := by
 unfold RetF frL frK
 rw [if_pos h, if_pos h]
 obtain ⟨a, c, rfl⟩ := gown_form ho
 have hc : (frB fr ep to pe ps).length ≤ c := by
  rcases ho.2 with ⟨h9, h8⟩ | ⟨g, cap, cur, h4, _, _, h5, _⟩
  ·simp only [Value.slice.injEq] at h9; omega
  ·simp only [Value.slice.injEq] at h4; omega
 exact ⟨⟨a, c, rfl, Bs_of_own ho (frB_byt h) (by rw [frB_len]; have := h.2.2; omega), hc, fun _ => ho⟩, hb⟩
end Go.Proofs.YtjghebcnmoojmaaGreat

namespace Go.Proofs.YtjghebcnmoojmaaGreat
set_option maxRecDepth 100000
open Go.RowKit

def FrOw (w : World) (S : Nat) (v : Value) (f : Fr) : Prop := ∃ a c, v = .agg #[.int .i64 f.fr, .int .i64 f.ep, .int .i64 f.to, .int .i64 f.pe, .slice a f.ps.length c] ∧ PsOw w S (.slice a f.ps.length c) f.ps
def RetPF (w : World) (xs : List Int) (e : Ending) (w' : World) : Prop := (∃ v q, e = .returned (.tuple #[v, .int .i64 q]) ∧ ((frPF xs = .inl q ∧ FrOw w' w.heap.size v zFr) ∨ ∃ f, frPF xs = .inr f ∧ q = 0 ∧ FrOw w' w.heap.size v f)) ∧ Below w.heap.size w w'
end Go.Proofs.YtjghebcnmoojmaaGreat
