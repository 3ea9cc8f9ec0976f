/- Frames that are compared: the reference's SamePart and Same. No conditions but on lengths. A part's bytes, as the document says them. No conditions but on lengths. A part out of bytes, as the document says it; parts whose rows are the call's own. No conditions. Rows of parts, the call's own, whose parts' rows are its own too: one part more. No conditions. -/
import Derived.Test.YtjghebcnmoojmaaGreatU33
namespace Go.Proofs.YtjghebcnmoojmaaGreat
set_option maxRecDepth 100000
open Go.RowKit

theorem bts_one {w : World} {bn : Int} {v : Value} {os : List Ob} (h : Os w v os) (g : Nat) (hg : g = w.heap.size) (T : TypeId) : Bts (w.alloc (.cells #[.int .i64 bn, v] T)) (.slice (some ⟨g, 0, none⟩) 1 1) [(bn, os)] := by
 subst hg
 refine .inr ⟨w.heap.size, 0, 1, rfl, fun i hi => ?_⟩
 obtain rfl : i = 0 := by simpa using hi
 exact ⟨by simp, v, by simp, h.alloc _⟩
def PtFew (p : Pt) : Prop := p.es.length ≤ 1000 ∧ p.os.length ≤ 1000 ∧ p.ks.length ≤ 1000 ∧ p.x.size ≤ 100000
theorem pt_ext {p q : Pt} (h1 : p.k = q.k) (h2 : p.be = q.be ∧ p.es = q.es) (h3 : p.bn = q.bn ∧ p.os = q.os) (h4 : p.ks = q.ks) (h5 : (p.s, p.d, p.t, p.n, p.x) = (q.s, q.d, q.t, q.n, q.x)) : p = q := by
 cases p; cases q
 simp only [Prod.mk.injEq] at h1 h2 h3 h4 h5
 obtain ⟨rfl, rfl⟩ := h2
 obtain ⟨rfl, rfl⟩ := h3
 obtain ⟨rfl, rfl, rfl, rfl, rfl⟩ := h5
 subst h1 h4
 rfl
set_option maxHeartbeats 16000000 in
theorem samept_any (r r' : RPt) (p p' : Pt) (w : World) (h : r.Rd w p) (h' : r'.Rd w p') (hl : PtFew p) :
  Calls Tryz.prog 37 #[.agg #[.int .i64 r.k, .int .i64 r.be, .slice r.a1 r.l1 r.c1, .int .i64 r.bn, .slice r.a2 r.l2 r.c2, .slice r.a3 r.l3 r.c3, .int .i64 r.s, .int .i64 r.d, .int .i64 r.t, .int .i64 r.n, .string r.x], .agg #[.int .i64 r'.k, .int .i64 r'.be, .slice r'.a1 r'.l1 r'.c1, .int .i64 r'.bn, .slice r'.a2 r'.l2 r'.c2, .slice r'.a3 r'.l3 r'.c3, .int .i64 r'.s, .int .i64 r'.d, .int .i64 r'.t, .int .i64 r'.n, .string r'.x]] w fun e w' => (∃ b : Bool, e = .returned (.bool b) ∧ (b = true ↔ p = p')) ∧ Below w.heap.size w w' := by
 have RA := Lib.hid h
 have RB := Lib.hid h'
 have HL : Hid (PtFew p) := hl
 have OA := Lib.hid ((ownt_alloc w r 50 w.heap.size rfl).below ((Below.refl _ _).alloc (Nat.le_refl _) (.cells #[.int .i64 r'.k, .int .i64 r'.be, .slice r'.a1 r'.l1 r'.c1, .int .i64 r'.bn, .slice r'.a2 r'.l2 r'.c2, .slice r'.a3 r'.l3 r'.c3, .int .i64 r'.s, .int .i64 r'.d, .int .i64 r'.t, .int .i64 r'.n, .string r'.x] 50)))
 have OB := Lib.hid (ownt_alloc (w.alloc (.cells #[.int .i64 r.k, .int .i64 r.be, .slice r.a1 r.l1 r.c1, .int .i64 r.bn, .slice r.a2 r.l2 r.c2, .slice r.a3 r.l3 r.c3, .int .i64 r.s, .int .i64 r.d, .int .i64 r.t, .int .i64 r.n, .string r.x] 50)) r' 50 (w.heap.size + 1) (by simp))
 have HB : Hid (Below w.heap.size w ((w.alloc (.cells #[.int .i64 r.k, .int .i64 r.be, .slice r.a1 r.l1 r.c1, .int .i64 r.bn, .slice r.a2 r.l2 r.c2, .slice r.a3 r.l3 r.c3, .int .i64 r.s, .int .i64 r.d, .int .i64 r.t, .int .i64 r.n, .string r.x] 50)).alloc (.cells #[.int .i64 r'.k, .int .i64 r'.be, .slice r'.a1 r'.l1 r'.c1, .int .i64 r'.bn, .slice r'.a2 r'.l2 r'.c2, .slice r'.a3 r'.l3 r'.c3, .int .i64 r'.s, .int .i64 r'.d, .int .i64 r'.t, .int .i64 r'.n, .string r'.x] 50))) := ((Below.refl _ w).alloc (Nat.le_refl _) _).alloc (by simp) _
 replace RA := Lib.hid (RA.out.below HB.out)
 replace RB := Lib.hid (RB.out.below HB.out)
 clear h h' hl
 go_enter Tryz.func37, Tryz.ntmps37
 by_cases hk : r.k = r'.k
 ·have hk' : (r.k == r'.k) = true := by simpa using hk
  have HK := Lib.hid hk
  clear hk
  obtain ⟨⟨u0, u1, u2, u3, u4, u5, u6, u7, u8, u9, u10⟩, -⟩ := OA.out
  obtain ⟨⟨v0, v1, v2, v3, v4, v5, v6, v7, v8, v9, v10⟩, -⟩ := OB.out
  go_wp2_with fail
  refine (rsame_any r.be r'.be _ _ _ _ _ RA.out.es.1 RB.out.es.1 (by have := HL.out.1; omega)).mono ?_
  rintro e V1 ⟨⟨b1, rfl, hb1⟩, hb⟩
  replace RA := Lib.hid (RA.out.below hb)
  replace RB := Lib.hid (RB.out.below hb)
  replace OA := Lib.hid (OA.out.below hb)
  replace OB := Lib.hid (OB.out.below hb)
  replace HB := Lib.hid (HB.out.trans (hb.mono HB.out.size))
  clear hb u0 v0 u1 v1 u2 v2 u3 v3 u4 v4 u5 v5 u6 v6 u7 v7 u8 v8 u9 v9 u10 v10
  obtain ⟨⟨u0, u1, u2, u3, u4, u5, u6, u7, u8, u9, u10⟩, -⟩ := OA.out
  obtain ⟨⟨v0, v1, v2, v3, v4, v5, v6, v7, v8, v9, v10⟩, -⟩ := OB.out
  cases b1 with
  | false =>
   have HN : Hid (¬ (p.be = p'.be ∧ p.es = p'.es)) := fun h9 => by
    have := hb1.2 (by rw [RA.out.be, RB.out.be]; exact h9)
    cases this
   clear hb1
   go_wp2_with fail
   go_ret
   exact ⟨⟨_, rfl, ⟨fun h => (by cases h), fun h => absurd (by rw [h]; exact ⟨rfl, rfl⟩) HN.out⟩⟩, HB.out⟩
  | true =>
   have H1 := Lib.hid (hb1.1 rfl)
   clear hb1
   have BA := Lib.hid (bts_one (bn := r.bn) RA.out.os V1.heap.size rfl 45)
   have Q3 : Hid (∀ O, (V1.alloc O).cell? ⟨w.heap.size + 1, 3, none⟩ = some (.int .i64 r'.bn)) := fun O => (OB.out.below ((Below.refl _ V1).alloc (Nat.le_refl _) O)).1.2.2.2.1
   have Q4 : Hid (∀ O, (V1.alloc O).cell? ⟨w.heap.size + 1, 4, none⟩ = some (.slice r'.a2 r'.l2 r'.c2)) := fun O => (OB.out.below ((Below.refl _ V1).alloc (Nat.le_refl _) O)).1.2.2.2.2.1
   have hal := (Below.refl V1.heap.size V1).alloc (Nat.le_refl _) (.cells #[.int .i64 r.bn, .slice r.a2 r.l2 r.c2] 45)
   replace RA := Lib.hid (RA.out.below hal)
   replace RB := Lib.hid (RB.out.below hal)
   replace OA := Lib.hid (OA.out.below hal)
   replace OB := Lib.hid (OB.out.below hal)
   replace HB := Lib.hid (HB.out.trans (hal.mono HB.out.size))
   clear hal
   have BB := Lib.hid (bts_one (bn := r'.bn) RB.out.os (V1.alloc (.cells #[.int .i64 r.bn, .slice r.a2 r.l2 r.c2] 45)).heap.size rfl 45)
   have hal := (Below.refl (V1.alloc (.cells #[.int .i64 r.bn, .slice r.a2 r.l2 r.c2] 45)).heap.size (V1.alloc (.cells #[.int .i64 r.bn, .slice r.a2 r.l2 r.c2] 45))).alloc (Nat.le_refl _) (.cells #[.int .i64 r'.bn, .slice r'.a2 r'.l2 r'.c2] 45)
   replace BA := Lib.hid (BA.out.below hal)
   replace RA := Lib.hid (RA.out.below hal)
   replace RB := Lib.hid (RB.out.below hal)
   replace OA := Lib.hid (OA.out.below hal)
   replace OB := Lib.hid (OB.out.below hal)
   replace HB := Lib.hid (HB.out.trans (hal.mono HB.out.size))
   clear hal
   have hsz : (V1.alloc (.cells #[.int .i64 r.bn, .slice r.a2 r.l2 r.c2] 45)).heap.size = V1.heap.size + 1 := by simp
   rw [hsz] at BB
   clear hsz
   have q3 : ∀ O, (V1.alloc O).cell? ⟨w.heap.size + 1, 3, none⟩ = some (.int .i64 r'.bn) := Q3.out
   have q4 : ∀ O, (V1.alloc O).cell? ⟨w.heap.size + 1, 4, none⟩ = some (.slice r'.a2 r'.l2 r'.c2) := Q4.out
   go_wp2_with fail
   clear q3 q4 u0 v0 u1 v1 u2 v2 u3 v3 u4 v4 u5 v5 u6 v6 u7 v7 u8 v8 u9 v9 u10 v10
   generalize (V1.alloc (.cells #[.int .i64 r.bn, .slice r.a2 r.l2 r.c2] 45)).alloc (.cells #[.int .i64 r'.bn, .slice r'.a2 r'.l2 r'.c2] 45) = V2 at *
   refine (bsame_any _ _ _ _ _ BA.out BB.out (by simp) (fun i hi => by
    obtain rfl : i = 0 := by simpa using hi
    have := HL.out.2.1
    simp [List.getD]; omega)).mono ?_
   rintro e V3 ⟨⟨b2, rfl, hb2⟩, hb⟩
   replace RA := Lib.hid (RA.out.below hb)
   replace RB := Lib.hid (RB.out.below hb)
   replace OA := Lib.hid (OA.out.below hb)
   replace OB := Lib.hid (OB.out.below hb)
   replace HB := Lib.hid (HB.out.trans (hb.mono HB.out.size))
   clear hb BA BB
   obtain ⟨⟨u0, u1, u2, u3, u4, u5, u6, u7, u8, u9, u10⟩, -⟩ := OA.out
   obtain ⟨⟨v0, v1, v2, v3, v4, v5, v6, v7, v8, v9, v10⟩, -⟩ := OB.out
   cases b2 with
   | false =>
    have HN : Hid (¬ (p.bn = p'.bn ∧ p.os = p'.os)) := fun h9 => by
     have := hb2.2 (by rw [RA.out.bn, RB.out.bn, h9.1, h9.2])
     cases this
    clear hb2
    go_wp2_with fail
    go_ret
    exact ⟨⟨_, rfl, ⟨fun h => (by cases h), fun h => absurd (by rw [h]; exact ⟨rfl, rfl⟩) HN.out⟩⟩, HB.out⟩
   | true =>
    have H2 := Lib.hid (hb2.1 rfl)
    clear hb2
    go_wp2_with fail
    refine (rsameA_any _ _ _ _ _ RA.out.ks RB.out.ks (by have := HL.out.2.2.1; omega)).mono ?_
    rintro e V4 ⟨⟨b3, rfl, hb3⟩, hb⟩
    replace RA := Lib.hid (RA.out.below hb)
    replace RB := Lib.hid (RB.out.below hb)
    replace OA := Lib.hid (OA.out.below hb)
    replace OB := Lib.hid (OB.out.below hb)
    replace HB := Lib.hid (HB.out.trans (hb.mono HB.out.size))
    clear hb u0 v0 u1 v1 u2 v2 u3 v3 u4 v4 u5 v5 u6 v6 u7 v7 u8 v8 u9 v9 u10 v10
    obtain ⟨⟨u0, u1, u2, u3, u4, u5, u6, u7, u8, u9, u10⟩, -⟩ := OA.out
    obtain ⟨⟨v0, v1, v2, v3, v4, v5, v6, v7, v8, v9, v10⟩, -⟩ := OB.out
    cases b3 with
    | false =>
     have HN : Hid (¬ (p.ks = p'.ks)) := fun h9 => by
      have := hb3.2 h9
      cases this
     clear hb3
     go_wp2_with fail
     go_ret
     exact ⟨⟨_, rfl, ⟨fun h => (by cases h), fun h => absurd (by rw [h]) HN.out⟩⟩, HB.out⟩
    | true =>
     have H3 := Lib.hid (hb3.1 rfl)
     clear hb3
     obtain ⟨q5, hq5⟩ : ∃ q, eqK r.s r.d r.t r.n r.x r'.s r'.d r'.t r'.n r'.x = q := ⟨_, rfl⟩
     have hEq : ∀ w', (binOp .eql 48 (.agg #[.int .i64 r.s, .int .i64 r.d, .int .i64 r.t, .int .i64 r.n, .string r.x]) (.agg #[.int .i64 r'.s, .int .i64 r'.d, .int .i64 r'.t, .int .i64 r'.n, .string r'.x])).run Tryz.prog w' = .ok (.bool q5) w' := fun w' => by rw [eqlPK, hq5]
     have hG := fun op x y xs ys w' => guardPK op x y xs ys w'
     have HQ := Lib.hid hq5
     clear hq5
     go_wp2_with fail
     go_ret
     refine ⟨⟨_, rfl, ?_⟩, HB.out⟩
     have e5 := eqk_iff (a := r.s) (b := r.d) (c := r.t) (d := r.n) (x := r.x) (a' := r'.s) (b' := r'.d) (c' := r'.t) (d' := r'.n) (x' := r'.x)
     rw [HQ.out, RA.out.s, RA.out.d, RA.out.t, RA.out.n, RA.out.x, RB.out.s, RB.out.d, RB.out.t, RB.out.n, RB.out.x] at e5
     have h1 := H1.out
     have h2 := H2.out
     rw [RA.out.be, RB.out.be] at h1
     rw [RA.out.bn, RB.out.bn] at h2
     have hk := HK.out
     rw [RA.out.k, RB.out.k] at hk
     exact ⟨fun h9 => pt_ext hk h1 (by simpa using h2) H3.out (e5.1 h9), fun h9 => e5.2 (by rw [h9])⟩
 ·have hk' : (r.k == r'.k) = false := by simpa using hk
  have HN : Hid (¬ (p.k = p'.k)) := fun h9 => hk (by rw [RA.out.k, RB.out.k]; exact h9)
  clear hk
  obtain ⟨⟨u0, u1, u2, u3, u4, u5, u6, u7, u8, u9, u10⟩, -⟩ := OA.out
  obtain ⟨⟨v0, v1, v2, v3, v4, v5, v6, v7, v8, v9, v10⟩, -⟩ := OB.out
  go_wp2_with fail
  go_ret
  exact ⟨⟨_, rfl, ⟨fun h => (by cases h), fun h => absurd (by rw [h]) HN.out⟩⟩, HB.out⟩
end Go.Proofs.YtjghebcnmoojmaaGreat

namespace Go.Proofs.YtjghebcnmoojmaaGreat
set_option maxRecDepth 100000
open Go.RowKit

theorem ok_k1 {p : Pt} (h : p.k = 1) : p.Ok ↔ BeOk p.be p.es ∧ p.noBt ∧ p.noAk ∧ p.noPk := by
 unfold Pt.Ok; rw [h]; simp
theorem ok_k2 {p : Pt} (h : p.k = 2) : p.Ok ↔ p.noBe ∧ BtOk p.bn p.os ∧ p.noAk ∧ p.noPk := by
 unfold Pt.Ok; rw [h]; simp
theorem ok_k3 {p : Pt} (h : p.k = 3) : p.Ok ↔ p.noBe ∧ p.noBt ∧ AksOk p.ks ∧ p.noPk := by
 unfold Pt.Ok; rw [h]; simp
theorem ok_k4 {p : Pt} (h : p.k = 4) : p.Ok ↔ p.noBe ∧ p.noBt ∧ p.noAk ∧ PkOk p.s p.d p.t p.n p.x := by
 unfold Pt.Ok; rw [h]; simp
theorem ok_k0 {p : Pt} (h : p.k ≠ 1 ∧ p.k ≠ 2 ∧ p.k ≠ 3 ∧ p.k ≠ 4) : ¬ p.Ok := by
 rintro (h1 | h1 | h1 | h1)
 ·exact h.1 h1.1
 ·exact h.2.1 h1.1
 ·exact h.2.2.1 h1.1
 ·exact h.2.2.2 h1.1
end Go.Proofs.YtjghebcnmoojmaaGreat

namespace Go.Proofs.YtjghebcnmoojmaaGreat
set_option maxRecDepth 100000
open Go.RowKit

structure RPt.Ow (w : World) (S : Nat) (r : RPt) (p : Pt) : Prop where
 k : r.k = p.k
 be : r.be = p.be
 es : OwE w S (.slice r.a1 r.l1 r.c1) p.es
 bn : r.bn = p.bn
 os : w.ownsRow S 63 12 (.slice r.a2 r.l2 r.c2) p.os.length (flat p.os)
 ks : w.ownsRow S 120 4 (.slice r.a3 r.l3 r.c3) p.ks.length (aflat p.ks)
 s : r.s = p.s
 d : r.d = p.d
 t : r.t = p.t
 n : r.n = p.n
 x : r.x = p.x
theorem RPt.Ow.rd {w : World} {S : Nat} {r : RPt} {p : Pt} (h : r.Ow w S p) : r.Rd w p :=
 ⟨h.k, h.be, h.es.el, h.bn, (Os_of_own h.os).1, (As_of_own h.ks).1, h.s, h.d, h.t, h.n, h.x⟩
theorem RPt.Ow.below {w w' : World} {S : Nat} {r : RPt} {p : Pt} (h : r.Ow w S p) (hb : Below w.heap.size w w') : r.Ow w' S p :=
 ⟨h.k, h.be, gown_below h.es hb, h.bn, gown_below h.os hb, gown_below h.ks hb, h.s, h.d, h.t, h.n, h.x⟩
theorem RPt.Ow.mono {w : World} {S S' : Nat} {r : RPt} {p : Pt} (h : r.Ow w S p) (hS : S' ≤ S) : r.Ow w S' p :=
 ⟨h.k, h.be, gown_mono h.es hS, h.bn, gown_mono h.os hS, gown_mono h.ks hS, h.s, h.d, h.t, h.n, h.x⟩
theorem RPt.Ow.apart {w : World} {S b : Nat} {u : Value} {r : RPt} {p : Pt} (h : r.Ow w S p) (hb : b < S) (j : Nat) : r.Ow (w.setCell ⟨b, j, none⟩ u) S p :=
 ⟨h.k, h.be, gown_apart h.es hb j, h.bn, gown_apart h.os hb j, gown_apart h.ks hb j, h.s, h.d, h.t, h.n, h.x⟩
theorem OwnT.apart {w : World} {b b' : Nat} {r : RPt} {u : Value} (h : OwnT w b r) (hb : b ≠ b') (j : Nat) : OwnT (w.setCell ⟨b', j, none⟩ u) b r := by
 have e : ∀ i, (w.setCell ⟨b', j, none⟩ u).cell? ⟨b, i, none⟩ = w.cell? ⟨b, i, none⟩ := fun i => World.cell?_of_block (Below.heap_setCell w ⟨b', j, none⟩ u b hb)
 have f : ∀ i, (w.setCell ⟨b', j, none⟩ u).frozen? ⟨b, i, none⟩ = w.frozen? ⟨b, i, none⟩ := fun i => World.frozen?_of_block (Below.heap_setCell w ⟨b', j, none⟩ u b hb)
 obtain ⟨⟨h0, h1, h2, h3, h4, h5, h6, h7, h8, h9, h10⟩, hf⟩ := h
 exact ⟨⟨(e 0).trans h0, (e 1).trans h1, (e 2).trans h2, (e 3).trans h3, (e 4).trans h4, (e 5).trans h5, (e 6).trans h6, (e 7).trans h7, (e 8).trans h8, (e 9).trans h9, (e 10).trans h10⟩, fun i => (f i).trans (hf i)⟩
set_option maxHeartbeats 4000000 in
theorem OwnT.setall {w : World} {b : Nat} {r : RPt} (h : OwnT w b r) (q : RPt) : OwnT (((((((((((w.setCell ⟨b, 0, none⟩ (.int .i64 q.k)).setCell ⟨b, 1, none⟩ (.int .i64 q.be)).setCell ⟨b, 2, none⟩ (.slice q.a1 q.l1 q.c1)).setCell ⟨b, 3, none⟩ (.int .i64 q.bn)).setCell ⟨b, 4, none⟩ (.slice q.a2 q.l2 q.c2)).setCell ⟨b, 5, none⟩ (.slice q.a3 q.l3 q.c3)).setCell ⟨b, 6, none⟩ (.int .i64 q.s)).setCell ⟨b, 7, none⟩ (.int .i64 q.d)).setCell ⟨b, 8, none⟩ (.int .i64 q.t)).setCell ⟨b, 9, none⟩ (.int .i64 q.n)).setCell ⟨b, 10, none⟩ (.string q.x)) b q := by
 obtain ⟨⟨h0, h1, h2, h3, h4, h5, h6, h7, h8, h9, h10⟩, hf⟩ := h
 refine ⟨⟨?_, ?_, ?_, ?_, ?_, ?_, ?_, ?_, ?_, ?_, ?_⟩, fun j => ?_⟩ <;> simp [go_sem, hf, h0, h1, h2, h3, h4, h5, h6, h7, h8, h9, h10]
theorem bel_set11 {B : Nat} {u w : World} {b : Nat} (h : Below B u w) (hB : B ≤ b) (q : RPt) : Below B u (((((((((((w.setCell ⟨b, 0, none⟩ (.int .i64 q.k)).setCell ⟨b, 1, none⟩ (.int .i64 q.be)).setCell ⟨b, 2, none⟩ (.slice q.a1 q.l1 q.c1)).setCell ⟨b, 3, none⟩ (.int .i64 q.bn)).setCell ⟨b, 4, none⟩ (.slice q.a2 q.l2 q.c2)).setCell ⟨b, 5, none⟩ (.slice q.a3 q.l3 q.c3)).setCell ⟨b, 6, none⟩ (.int .i64 q.s)).setCell ⟨b, 7, none⟩ (.int .i64 q.d)).setCell ⟨b, 8, none⟩ (.int .i64 q.t)).setCell ⟨b, 9, none⟩ (.int .i64 q.n)).setCell ⟨b, 10, none⟩ (.string q.x)) := (((((((((((h.setCell (p := ⟨b, 0, none⟩) hB _).setCell (p := ⟨b, 1, none⟩) hB _).setCell (p := ⟨b, 2, none⟩) hB _).setCell (p := ⟨b, 3, none⟩) hB _).setCell (p := ⟨b, 4, none⟩) hB _).setCell (p := ⟨b, 5, none⟩) hB _).setCell (p := ⟨b, 6, none⟩) hB _).setCell (p := ⟨b, 7, none⟩) hB _).setCell (p := ⟨b, 8, none⟩) hB _).setCell (p := ⟨b, 9, none⟩) hB _).setCell (p := ⟨b, 10, none⟩) hB _)
theorem ow_set11 {w : World} {S b : Nat} {r : RPt} {p : Pt} (h : r.Ow w S p) (hb : b < S) (q : RPt) : r.Ow (((((((((((w.setCell ⟨b, 0, none⟩ (.int .i64 q.k)).setCell ⟨b, 1, none⟩ (.int .i64 q.be)).setCell ⟨b, 2, none⟩ (.slice q.a1 q.l1 q.c1)).setCell ⟨b, 3, none⟩ (.int .i64 q.bn)).setCell ⟨b, 4, none⟩ (.slice q.a2 q.l2 q.c2)).setCell ⟨b, 5, none⟩ (.slice q.a3 q.l3 q.c3)).setCell ⟨b, 6, none⟩ (.int .i64 q.s)).setCell ⟨b, 7, none⟩ (.int .i64 q.d)).setCell ⟨b, 8, none⟩ (.int .i64 q.t)).setCell ⟨b, 9, none⟩ (.int .i64 q.n)).setCell ⟨b, 10, none⟩ (.string q.x)) S p := (((((((((((h.apart hb 0).apart hb 1).apart hb 2).apart hb 3).apart hb 4).apart hb 5).apart hb 6).apart hb 7).apart hb 8).apart hb 9).apart hb 10)
theorem retq_of {w : World} {r : Int ⊕ (List (Int × Int × Int × Int) × Int)} {e : Ending} {w' : World} (h : (∃ u t k, e = .returned (.tuple #[u, .int .i64 t, .int .i64 k]) ∧ PRetA w r u t k w') ∧ Below w.heap.size w w') : (∃ a c, e = .returned (.tuple #[.slice a (paY r).length c, .int .i64 (paT r), .int .i64 (paK r)]) ∧ w'.ownsRow w.heap.size 120 4 (.slice a (paY r).length c) (paY r).length (aflat (paY r))) ∧ Below w.heap.size w w' := by
 obtain ⟨⟨u, t, k, h1, h2⟩, h3⟩ := h
 match r, h2 with
 | .inl e9, ⟨hu, ht, hk⟩ =>
  subst hu ht hk
  exact ⟨⟨none, 0, h1, gown_nil (R := RA) _ _⟩, h3⟩
 | .inr (ys, to), ⟨ht, hk, ho⟩ =>
  subst ht hk
  obtain ⟨a, c, rfl⟩ := gown_form ho
  exact ⟨⟨a, c, h1, ho⟩, h3⟩
theorem rd_k0 {k : Int} (h : k ≠ 1 ∧ k ≠ 2 ∧ k ≠ 3 ∧ k ≠ 4) (b : List Int) : rdPart k b = none := by
 unfold rdPart
 rw [if_neg h.1, if_neg h.2.1, if_neg h.2.2.1, if_neg h.2.2.2]
end Go.Proofs.YtjghebcnmoojmaaGreat

namespace Go.Proofs.YtjghebcnmoojmaaGreat
set_option maxRecDepth 100000
open Go.RowKit

theorem own_ne9 {w : World} {S S' n n' size size' : Nat} {e e' : TypeId} {v v' : Value} {xs xs' : List Value} (h : w.ownsRow S e size v n xs) (h' : w.ownsRow S' e' size' v' n' xs') (he : e ≠ e') : v.ownBlock = none ∨ v.ownBlock ≠ v'.ownBlock := by
 rcases h.2 with ⟨rfl, _⟩ | ⟨g, cap, cur, rfl, _, hg, _⟩
 ·exact .inl rfl
 ·refine .inr ?_
  rcases h'.2 with ⟨rfl, _⟩ | ⟨g', cap', cur', rfl, _, hg', _⟩
  ·simp [Value.ownBlock]
  ·intro hh
   have e1 : g = g' := by simpa [Value.ownBlock] using hh
   subst e1
   rw [hg] at hg'
   have := Option.some.inj hg'
   simp only [Obj.cells.injEq] at this
   exact he this.2.1
theorem RPt.Ow.kept {w w' : World} {S S' n : Nat} {r : RPt} {p : Pt} {v : Value} {xs : List Value} (h : r.Ow w S p) (hv : w.ownsRow S' 50 11 v n xs) (hg : w.grownBy w' v.ownBlock) : r.Ow w' S p :=
 ⟨h.k, h.be, World.ownsRow.kept h.es hg (own_ne9 h.es hv (by decide)), h.bn, h.os.kept hg (own_ne9 h.os hv (by decide)), h.ks.kept hg (own_ne9 h.ks hv (by decide)), h.s, h.d, h.t, h.n, h.x⟩
def PsOw (w : World) (S : Nat) (v : Value) (ps : List Pt) : Prop := ∃ rs : List RPt, rs.length = ps.length ∧ w.ownsRow S 50 11 v rs.length (gflat RP rs) ∧ ∀ i, i < ps.length → (rs.getD i zR).Ow w S (ps.getD i zPt)
theorem PsOw.own {w : World} {S : Nat} {v : Value} {ps : List Pt} (h : PsOw w S v ps) : PsOwn w S v ps := by
 obtain ⟨rs, h1, h2, h3⟩ := h
 exact ⟨rs, h1, h2, fun i hi => (h3 i hi).rd⟩
theorem PsOw.ps {w : World} {S : Nat} {v : Value} {ps : List Pt} (h : PsOw w S v ps) : Ps w v ps := h.own.ps
theorem PsOw.below {w w' : World} {S : Nat} {v : Value} {ps : List Pt} (h : PsOw w S v ps) (hb : Below w.heap.size w w') : PsOw w' S v ps := by
 obtain ⟨rs, h1, h2, h3⟩ := h
 exact ⟨rs, h1, gown_below h2 hb, fun i hi => (h3 i hi).below hb⟩
theorem PsOw.mono {w : World} {S S' : Nat} {v : Value} {ps : List Pt} (h : PsOw w S v ps) (hS : S' ≤ S) : PsOw w S' v ps := by
 obtain ⟨rs, h1, h2, h3⟩ := h
 exact ⟨rs, h1, gown_mono h2 hS, fun i hi => (h3 i hi).mono hS⟩
theorem PsOw.form {w : World} {S : Nat} {v : Value} {ps : List Pt} (h : PsOw w S v ps) : ∃ a c, v = .slice a ps.length c := h.ps.form
theorem PsOw_nil (w : World) (S : Nat) : PsOw w S (.slice none 0 0) [] := ⟨[], rfl, gown_nil (R := RP) w S, fun i hi => by simp at hi⟩
end Go.Proofs.YtjghebcnmoojmaaGreat
