/- The program's Clone of objects, its batches as a list of its own; Wait, Out. No conditions but on lengths. The program's Wait and Out; what a sender that is nil answers. No conditions but on lengths. The program's Again. No conditions. Which ones an ack has; slices.IndexFunc, slices.DeleteFunc of pointers by what a closure tells. No conditions but on lengths. slices.DeleteFunc of pointers by what a closure tells. No conditions but on lengths. The program's Got. No conditions. The program's Send. No conditions. The program's sender answers as the document says, over what it keeps. No conditions. -/
import Derived.Test.YticjeknadddhoaaPm
import Derived.Test.YticjeknadddhoaaTyp5
import Derived.Test.YticjeknadddhoaaAm
import Derived.Test.YticjeknadddhoaaBm
import Derived.Deep.RegionWith
import Derived.LoopTactic
namespace Go.Proofs.Yticjeknadddhoaa
set_option maxRecDepth 100000
set_option linter.unusedVariables false
open Go.RowKit

theorem OwO.mono0 {w : World} {S S' : Nat} {v : Value} {l : List Ob} (h : OwO w S v l) (hS : S' ≤ S) : OwO w S' v l := gown_mono h hS
theorem oclone_any (v : Value) (ys : List Ob) (w : World) (h : Os w v ys) (hl : ys.length ≤ 3000) : Calls Try.prog 43 #[v] w fun e w' => (∃ a c, e = .returned (.slice a ys.length c) ∧ OwO w' w.heap.size (.slice a ys.length c) ys) ∧ Below w.heap.size w w' := by
  obtain ⟨a, c, rfl⟩ := h.form
  cases a with
  | none =>
    obtain ⟨rfl, rfl⟩ : ys = [] ∧ c = 0 := by
      rcases h with ⟨a, cap, hv, hc, rfl⟩ | ⟨b, off, cap, hv, _⟩
      · cases hv; exact ⟨rfl, hc rfl⟩
      · cases hv
    have q22 : ∀ w, (binOp .eql 29 (.slice none 0 0) (.slice none 0 0)).run Try.prog w = .ok (.bool true) w := fun w => Lib.run_eql_slice_nil w 29 39 none 0 0 0 0 underSL
    clear h
    show Calls Try.prog 43 #[.slice none 0 0] w _
    go_enter Try.func43, Try.ntmps43
    go_wp2_with fail
    go_ret
    exact ⟨⟨none, 0, rfl, OwO_nil w _⟩, Below.refl _ _⟩
  | some ad =>
    have q22 : ∀ w, (binOp .eql 29 (.slice (some ad) ys.length c) (.slice none 0 0)).run Try.prog w = .ok (.bool false) w := fun w => Lib.run_eql_slice_nil w 29 39 (some ad) ys.length c 0 0 underSL
    obtain ⟨V, hV⟩ : ∃ V, w.alloc (.cells #[] 39) = V := ⟨_, rfl⟩
    have hb : Below w.heap.size w V := hV ▸ (Below.refl _ w).alloc (Nat.le_refl _) _
    have ho : OwO V w.heap.size (.slice (some ⟨w.heap.size, 0, none⟩) 0 0) [] := hV ▸ World.ownsRow_made (e := 39) (size := 12) w #[] 0 (Nat.le_refl _) (by decide) rfl
    obtain ⟨r, w2, hr, ho2, hg, _⟩ := run_gappo V 29 w.heap.size _ [] ho _ ys (h.below hb) (by simp; omega) hb.size
    rw [List.nil_append] at ho2
    have hb2 : Below w.heap.size w w2 := hb.grown hg hb.size (fun k hk => (World.ownsRow.lt ho k hk).1)
    obtain ⟨a2, c2, rfl⟩ := own_form ho2
    have HO := Lib.hid ho2
    have HB := Lib.hid hb2
    rw [← hV] at hr
    clear h hb ho hg ho2 hb2 hV
    go_enter Try.func43, Try.ntmps43
    go_wp2_with (at_builtin; refine app_go rfl (.tmp 5) (.tmp 6) 29 rfl _ _ _ _ rfl rfl hr ?_)
    go_ret
    exact ⟨⟨a2, c2, rfl, HO.out⟩, HB.out⟩
def NewCl (V : World) (l : List Ob) : Ty := fun v w => ∃ a c, v = .slice a l.length c ∧ OwO w V.heap.size (.slice a l.length c) l
theorem NewCl.keeps (V : World) (l : List Ob) (k : Nat) : T3.Keeps (fun _ w w' => Below w.heap.size w w') k (NewCl V l) := fun _ _ _ _ _ ⟨a, c, h1, h2⟩ hb => ⟨a, c, h1, h2.below hb⟩
def NewBd (V : World) (n : Int) (l : List Ob) : Ty := fun v w => ∃ a c, v = .agg #[.int .i64 n, .slice a l.length c] ∧ OwO w V.heap.size (.slice a l.length c) l
theorem NewBd.keeps (V : World) (n : Int) (l : List Ob) (k : Nat) : T3.Keeps (fun _ w w' => Below w.heap.size w w') k (NewBd V n l) := fun _ _ _ _ _ ⟨a, c, h1, h2⟩ hb => ⟨a, c, h1, h2.below hb⟩
def NewBr (V : World) (n : Int) (l : List Ob) : Ty := fun v w => ∃ b a c, v = .slice (some ⟨b, 0, none⟩) 1 1 ∧ V.heap.size ≤ b ∧ w.cell? ⟨b, 0, none⟩ = some (.int .i64 n) ∧ w.cell? ⟨b, 1, none⟩ = some (.slice a l.length c) ∧ OwO w V.heap.size (.slice a l.length c) l
theorem NewBr.keeps (V : World) (n : Int) (l : List Ob) (k : Nat) : T3.Keeps (fun _ w w' => Below w.heap.size w w') k (NewBr V n l) := fun _ _ _ _ _ ⟨b, a, c, h1, h2, h3, h4, h5⟩ hb =>
  have hl := World.block_lt_of_cell? _ _ h3
  ⟨b, a, c, h1, h2, (hb.cell (p := ⟨b, 0, none⟩) hl).trans h3, (hb.cell (p := ⟨b, 1, none⟩) hl).trans h4, h5.below hb⟩
/-- One batch more, read where it lies. -/
theorem run_bapp2 (w : World) (ty : TypeId) (S : Nat) (v : Value) (bs : List Bt) (hrow : RowB w S v bs) (b : Nat) (N : Int) (a : Option Addr) (c : Nat) (ys : List Ob) (h0 : w.cell? ⟨b, 0, none⟩ = some (.int .i64 N)) (h1 : w.cell? ⟨b, 1, none⟩ = some (.slice a ys.length c)) (ho : OwO w S (.slice a ys.length c) ys) (h63 : bs.length ≤ 3000) (hS : S ≤ w.heap.size) :
    ∃ r w', (Builtin.append_ #[30, 30] ty #[v, .slice (some ⟨b, 0, none⟩) 1 1]).run Try.prog w = .ok r w' ∧ RowB w' S r (bs ++ [(N, ys)]) ∧ Below S w w' := by
  obtain ⟨i0, hi, hz0, hz1, hz2⟩ := info_parts infoBT
  obtain ⟨vs, k1, k2, k3⟩ := hrow
  obtain ⟨r, w', hr, h2, h3, _, _⟩ := run_append_own_at (P := Try.prog) w S 30 ty 55 i0 _ 2 32 underBS hi hz0 hz1 hz2 rfl (by decide) v bs.length (flat2 vs) k2 ⟨b, 0, none⟩ 1 1 [.int .i64 N, .slice a ys.length c] rfl (by
    intro j u hj
    rw [add_spot]
    have hj2 : j < 2 := (List.getElem?_eq_some_iff.1 hj).1
    have : j = 0 ∨ j = 1 := by omega
    rcases this with rfl | rfl
    · simp at hj; subst hj; exact h0
    · simp at hj; subst hj; exact h1) (by
    intro u hu
    simp at hu
    rcases hu with rfl | rfl <;> rfl) (by unfold maxLen; omega) (by omega) hS
  refine ⟨r, w', hr, ⟨vs ++ [(N, Value.slice a ys.length c)], by simp [k1], ?_, fun i hi2 => ?_⟩, (Below.refl _ w).grown h3 hS (fun k hk => (k2.lt k hk).1)⟩
  · have e : flat2 (vs ++ [(N, Value.slice a ys.length c)]) = flat2 vs ++ [.int .i64 N, .slice a ys.length c] := by rw [flat2_app]; rfl
    rw [e, show (bs ++ [(N, ys)]).length = bs.length + 1 by simp]
    exact h2
  · have hlen : i < bs.length + 1 := by simpa using hi2
    by_cases h9 : i < bs.length
    · have e1 : (vs ++ [(N, Value.slice a ys.length c)]).getD i zv = vs.getD i zv := by simp [List.getD, List.getElem?_append, k1, h9]
      have e2 : (bs ++ [(N, ys)]).getD i zb = bs.getD i zb := by simp [List.getD, List.getElem?_append, h9]
      rw [e1, e2]
      exact ⟨(k3 i h9).1, (k3 i h9).2.kept h3 (apart2 (k3 i h9).2 k2)⟩
    · have e : i = bs.length := by omega
      subst e
      have e1 : (vs ++ [(N, Value.slice a ys.length c)]).getD bs.length zv = (N, Value.slice a ys.length c) := by rw [← k1]; simp [List.getD]
      have e2 : (bs ++ [(N, ys)]).getD bs.length zb = (N, ys) := by simp [List.getD]
      rw [e1, e2]
      exact ⟨rfl, World.ownsRow.kept ho h3 (apart2 ho k2)⟩
/-- What lies at a pointer reads as a batch. -/
def RdP (w : World) (p : Nat) (x : Bt) : Prop := w.cell? ⟨p, 0, none⟩ = some (.int .i64 x.1) ∧ ∃ u, w.cell? ⟨p, 1, none⟩ = some u ∧ Os w u x.2
theorem RdP.lt {w : World} {p : Nat} {x : Bt} (h : RdP w p x) : p < w.heap.size := World.block_lt_of_cell? w _ h.1
theorem RdP.below {w w' : World} {p : Nat} {x : Bt} (h : RdP w p x) (hb : Below w.heap.size w w') : RdP w' p x := by
  have hp := h.lt
  obtain ⟨h1, u, h2, h3⟩ := h
  exact ⟨(hb.cell (p := ⟨p, 0, none⟩) hp).trans h1, u, (hb.cell (p := ⟨p, 1, none⟩) hp).trans h2, h3.below hb⟩
theorem SndAt.rd {w : World} {F : Nat → Prop} {vW : Value} {p : Nat} {e : Bt × Int} (h : SndAt w F vW p e) : RdP w p e.1 := by
  obtain ⟨u, h1, h2⟩ := h.cell
  exact ⟨by simp [World.cell?, h1], u, by simp [World.cell?, h1], h2.os⟩
theorem RowB.form' {w : World} {S : Nat} {v : Value} {bs : List Bt} (h : RowB w S v bs) : ∃ a c, v = .slice a bs.length c := by
  obtain ⟨vs, h1, h2, h3⟩ := h
  exact gown_form h2
theorem pt_at {w : World} {a : Option Addr} {c : Nat} {ps : List Nat} (h : Gs RPT w (.slice a ps.length c) ps) {i : Nat} (hi : i < ps.length) : ∃ b off, a = some ⟨b, off, none⟩ ∧ b < w.heap.size ∧ w.cell? ⟨b, off + i, none⟩ = some (ptr (ps.getD i 0)) := by
  obtain ⟨b, off, h1, h2, h3⟩ := Gs.at (R := RPT) h hi
  have := h3 0 (by decide)
  rw [show off + i * RPT.K + 0 = off + i from congrArg (off + ·) (Nat.mul_one i)] at this
  exact ⟨b, off, h1, h2, this⟩
set_option maxHeartbeats 8000000 in
theorem bof_any (a : Option Addr) (c : Nat) (ps : List Nat) (bs : List Bt) (w : World) (hv : Gs RPT w (.slice a ps.length c) ps) (hl : bs.length = ps.length) (hz : ∀ i, i < ps.length → RdP w (ps.getD i 0) (bs.getD i zb)) (hn : ps.length ≤ 1000) (hb : ∀ i, i < ps.length → (bs.getD i zb).2.length ≤ 3000) :
    Calls Try.prog 30 #[.slice a ps.length c] w fun e w' => ∃ r, e = .returned r ∧ RowB w' w.heap.size r bs ∧ Below w.heap.size w w' := by
  have HV := Lib.hid hv
  have HL := Lib.hid hl
  have HZ := Lib.hid hz
  have HN := Lib.hid hn
  have HBL := Lib.hid hb
  clear hv hl hz hb
  go_enter Try.func30, Try.ntmps30
  go_wp2_with fail
  go_loopw [3, 8] (fun lv iv wr => ∃ (k : Nat) (ax : Option Addr) (cx : Nat), k ≤ ps.length ∧ iv = .int .i64 k ∧ lv = .slice ax k cx ∧ Hid (RowB wr w.heap.size (.slice ax k cx) (bs.take k)) ∧ Hid (Below w.heap.size w wr)) (fun _ i _ => ps.length - (intOf i).toNat)
  case atStart => exact ⟨0, none, 0, Nat.zero_le _, rfl, rfl, RowB_nil _ _, Below.refl _ _⟩
  case round =>
    obtain ⟨k, ax, cx, hk, rfl, rfl, HR, HB⟩ := hrel
    by_cases hlt : k < ps.length
    · obtain ⟨b2, off, rfl, hb2, hc0⟩ := pt_at HV.out hlt
      obtain ⟨hq0, u, hq1, hq2⟩ := HZ.out k hlt
      have hql := HBL.out k hlt
      have hst : bs.take (k + 1) = bs.take k ++ [bs.getD k zb] := by rw [List.take_succ_eq_append_getElem (by have := HL.out; omega)]; simp [List.getD, show k < bs.length by have := HL.out; omega]
      obtain ⟨p, hp⟩ : ∃ p, ps.getD k 0 = p := ⟨_, rfl⟩
      obtain ⟨x, hx⟩ : ∃ x, bs.getD k zb = x := ⟨_, rfl⟩
      rw [hp] at hc0 hq0 hq1
      rw [hx] at hq0 hq2 hql hst
      obtain ⟨n, ys⟩ := x
      obtain ⟨a0, c0, rfl⟩ := hq2.form
      have HYL : Hid (ys.length ≤ 3000) := hql
      have hpl : p < w.heap.size := World.block_lt_of_cell? w _ hq0
      have HOS := Lib.hid (hq2.below HB.out)
      have hltz : (k : Int) < ps.length := by omega
      have e0 : wr.cell? ⟨b2, off + k, none⟩ = some (ptr p) := (HB.out.cell (p := ⟨b2, off + k, none⟩) hb2).trans hc0
      have e1 : wr.cell? ⟨p, 0, none⟩ = some (.int .i64 n) := (HB.out.cell (p := ⟨p, 0, none⟩) hpl).trans hq0
      have e2 : wr.cell? ⟨p, 1, none⟩ = some (.slice a0 ys.length c0) := (HB.out.cell (p := ⟨p, 1, none⟩) hpl).trans hq1
      have hpr : p < wr.heap.size := World.block_lt_of_cell? wr _ e1
      have kc : ∀ w', Below wr.heap.size wr w' → w'.cell? ⟨p, 0, none⟩ = some (.int .i64 n) ∧ w'.cell? ⟨p, 1, none⟩ = some (.slice a0 ys.length c0) := fun w' h => ⟨(h.cell (p := ⟨p, 0, none⟩) hpr).trans e1, (h.cell (p := ⟨p, 1, none⟩) hpr).trans e2⟩
      have HST := Lib.hid hst
      have HPL := Lib.hid hpr
      clear hp hx hst hq0 hq1 hq2 hql hc0 hb2 hpl e1 e2 hpr
      go_upto_region 5 with (fail)
      clear e0
      refine T3.wp_region_tailT (C := fun w' => Below wr.heap.size wr w') (X := fun _ w w' => Below w.heap.size w w') (n := 29) 14 (by kernel_rfl) (by kernel_rfl) (by kernel_rfl) (by kernel_rfl) rfl (fun _ w => Below.refl _ w) (Below.refl _ _).drew ?_
      simp only [List.take_succ_cons, List.take_zero, List.drop_succ_cons, List.drop_zero]
      refine T3.w_is (fun _ w => Below.refl _ w) rfl _ (.inl rfl) (fun ρ w hC hc hfn hf => by have e3 : ρ (.tmp 3) = _ := hf 3 (by decide); (conv => lhs; simp [execOp, go_sem, hc, e3])) ?_
      refine T3.w_is (fun _ w => Below.refl _ w) rfl _ (.inl rfl) (fun ρ w hC hc hfn hf => by have e5 : ρ (.tmp 5) = _ := hf 5 (by decide); (conv => lhs; simp [execOp, go_sem, hc, e5])) ?_
      refine T3.w_is (fun _ w => Below.refl _ w) rfl _ (.inl rfl) (fun ρ w hC hc hfn hf => by have e13 : ρ (.tmp 13) = _ := hf 13 (by decide); (conv => lhs; simp [execOp, go_sem, hc, e13])) ?_
      refine T3.w_is (fun _ w => Below.refl _ w) rfl _ (.inl rfl) (fun ρ w hC hc hfn hf => by have e14 : ρ (.tmp 14) = _ := hf 14 (by decide); (conv => lhs; simp [execOp, go_sem, hc, e14])) ?_
      refine T3.w_is (fun _ w => Below.refl _ w) rfl _ (.inl rfl) (fun ρ w hC hc hfn hf => by have e15 : ρ (.tmp 15) = _ := hf 15 (by decide); (conv => lhs; simp [execOp, go_sem, hc, e15])) ?_
      refine T3.w_is (fun _ w => Below.refl _ w) rfl _ (.inl rfl) (fun ρ w hC hc hfn hf => by have e16 : ρ (.tmp 16) = _ := hf 16 (by decide); (conv => lhs; simp [execOp, go_sem, hc, e16, kc w hC])) ?_
      refine T3.w_is (fun _ w => Below.refl _ w) rfl _ (.inl rfl) (fun ρ w hC hc hfn hf => by have e5 : ρ (.tmp 5) = _ := hf 5 (by decide); (conv => lhs; simp [execOp, go_sem, hc, e5])) ?_
      refine T3.w_is (fun _ w => Below.refl _ w) rfl _ (.inl rfl) (fun ρ w hC hc hfn hf => by have e18 : ρ (.tmp 18) = _ := hf 18 (by decide); (conv => lhs; simp [execOp, go_sem, hc, e18])) ?_
      refine T3.w_is (fun _ w => Below.refl _ w) rfl _ (.inl rfl) (fun ρ w hC hc hfn hf => by have e19 : ρ (.tmp 19) = _ := hf 19 (by decide); (conv => lhs; simp [execOp, go_sem, hc, e19])) ?_
      refine T3.w_is (fun _ w => Below.refl _ w) rfl _ (.inl rfl) (fun ρ w hC hc hfn hf => by have e20 : ρ (.tmp 20) = _ := hf 20 (by decide); (conv => lhs; simp [execOp, go_sem, hc, e20])) ?_
      refine T3.w_is (fun _ w => Below.refl _ w) rfl _ (.inl rfl) (fun ρ w hC hc hfn hf => by have e21 : ρ (.tmp 21) = _ := hf 21 (by decide); (conv => lhs; simp [execOp, go_sem, hc, e21, kc w hC])) ?_
      refine T3.w_call rfl (NewCl wr ys) (NewCl.keeps wr _ 11) 43 (.inl rfl) (fun ρ w hC hc hfn hf => by have e22 : ρ (.tmp 22) = _ := hf 22 (by decide); exact ⟨_, by (conv => lhs; simp [execOp, resolve, invoke, go_sem, hc, hfn, e22]), (oclone_any (.slice a0 ys.length c0) ys w (HOS.out.below hC) HYL.out).mono fun e w' h => by obtain ⟨⟨a, c, h1, h2⟩, h3⟩ := h; exact ⟨_, h1, hC.trans (h3.mono hC.size), h3, ⟨a, c, rfl, h2.mono0 hC.size⟩⟩⟩) ?_
      refine T3.w_make rfl (NewBd wr n ys) (NewBd.keeps wr n ys 12) (.inl rfl) (fun ρ w hC hc hfn hf => by have e17 : ρ (.tmp 17) = _ := hf 17 (by decide); obtain ⟨a2, c2, e23, ho⟩ := (show (NewCl wr ys) (ρ (.tmp 23)) w from hf 23 (by decide)); exact ⟨_, _, by (conv => lhs; simp [execOp, go_sem, hc, e17, e23]), hC, Below.refl _ _, ⟨a2, c2, rfl, ho⟩⟩) ?_
      refine T3.w_make rfl (NewBr wr n ys) (NewBr.keeps wr n ys 13) (.inl rfl) (fun ρ w hC hc hfn hf => by obtain ⟨a2, c2, e24, ho⟩ := (show (NewBd wr n ys) (ρ (.tmp 24)) w from hf 24 (by decide)); exact ⟨_, _, by (conv => lhs; simp [execOp, go_sem, hc, e24]), hC.trans (((Below.refl _ w).alloc (Nat.le_refl _) _).mono hC.size), (Below.refl _ w).alloc (Nat.le_refl _) _, ⟨w.heap.size, a2, c2, rfl, hC.size, by simp, by simp, ho.below ((Below.refl _ w).alloc (Nat.le_refl _) _)⟩⟩) ?_
      intro A V5 hC hn hd hf
      obtain ⟨a2, c2, y23, -⟩ := (show (NewCl wr ys) (A.eval (.tmp 23)) V5 from hf 23)
      obtain ⟨a3, c3, y24, -⟩ := (show (NewBd wr n ys) (A.eval (.tmp 24)) V5 from hf 24)
      obtain ⟨bq, a4, c4, y25, hb0, hbc0, hbc1, ho⟩ := (show (NewBr wr n ys) (A.eval (.tmp 25)) V5 from hf 25)
      have y0 : A.eval (.tmp 0) = _ := Eq.trans (hf 0) (by conv => lhs; simp [go_sem])
      have y1 : A.eval (.tmp 1) = _ := Eq.trans (hf 1) (by conv => lhs; simp [go_sem])
      have y2 : A.eval (.tmp 2) = _ := Eq.trans (hf 2) (by conv => lhs; simp [go_sem])
      have y3 : A.eval (.tmp 3) = _ := Eq.trans (hf 3) (by conv => lhs; simp [go_sem])
      have y4 : A.eval (.tmp 4) = _ := Eq.trans (hf 4) (by conv => lhs; simp [go_sem])
      have y5 : A.eval (.tmp 5) = _ := Eq.trans (hf 5) (by conv => lhs; simp [go_sem])
      have y6 : A.eval (.tmp 6) = _ := Eq.trans (hf 6) (by conv => lhs; simp [go_sem])
      have y7 : A.eval (.tmp 7) = _ := Eq.trans (hf 7) (by conv => lhs; simp [go_sem])
      have y8 : A.eval (.tmp 8) = _ := Eq.trans (hf 8) (by conv => lhs; simp [go_sem])
      have y9 : A.eval (.tmp 9) = _ := Eq.trans (hf 9) (by conv => lhs; simp [go_sem])
      have y10 : A.eval (.tmp 10) = _ := Eq.trans (hf 10) (by conv => lhs; simp [go_sem])
      have y11 : A.eval (.tmp 11) = _ := Eq.trans (hf 11) (by conv => lhs; simp [go_sem])
      have y12 : A.eval (.tmp 12) = _ := hf 12
      have y13 : A.eval (.tmp 13) = _ := hf 13
      have y14 : A.eval (.tmp 14) = _ := hf 14
      have y15 : A.eval (.tmp 15) = _ := hf 15
      have y16 : A.eval (.tmp 16) = _ := hf 16
      have y17 : A.eval (.tmp 17) = _ := hf 17
      have y18 : A.eval (.tmp 18) = _ := hf 18
      have y19 : A.eval (.tmp 19) = _ := hf 19
      have y20 : A.eval (.tmp 20) = _ := hf 20
      have y21 : A.eval (.tmp 21) = _ := hf 21
      have y22 : A.eval (.tmp 22) = _ := hf 22
      have y26 : A.eval (.tmp 26) = _ := Eq.trans (hf 26) (by conv => lhs; simp [go_sem])
      have y27 : A.eval (.tmp 27) = _ := Eq.trans (hf 27) (by conv => lhs; simp [go_sem])
      have y28 : A.eval (.tmp 28) = _ := Eq.trans (hf 28) (by conv => lhs; simp [go_sem])
      clear hf
      have hA := frame_eq hn
      rw [show List.range 29 = [0, 1, 2, 3, 4, 5, 6, 7, 8, 9, 10, 11, 12, 13, 14, 15, 16, 17, 18, 19, 20, 21, 22, 23, 24, 25, 26, 27, 28] from rfl, hd] at hA
      simp only [List.map_cons, List.map_nil, y0, y1, y2, y3, y4, y5, y6, y7, y8, y9, y10, y11, y12, y13, y14, y15, y16, y17, y18, y19, y20, y21, y22, y23, y24, y25, y26, y27, y28] at hA
      clear y0 y1 y2 y3 y4 y5 y6 y7 y8 y9 y10 y11 y12 y13 y14 y15 y16 y17 y18 y19 y20 y21 y22 y23 y24 y25 y26 y27 y28
      clear hn hd
      subst hA
      have hb5 := HB.out.trans (hC.mono HB.out.size)
      have hr5 := HR.out.below hC
      have hkl : (bs.take k).length = k := by rw [List.length_take]; have := HL.out; omega
      obtain ⟨r, w6, hr, hq, hb6⟩ := run_bapp2 V5 30 w.heap.size (.slice ax k cx) (bs.take k) hr5 bq n a4 c4 ys hbc0 hbc1 (ho.mono0 (HB.out.size)) (by have := HN.out; omega) hb5.size
      rw [← HST.out] at hq
      obtain ⟨ar, cr, rfl⟩ := hq.form'
      have hkl2 : (bs.take (k + 1)).length = k + 1 := by rw [List.length_take]; have := HL.out; omega
      rw [hkl2] at hq hr
      have HQ := Lib.hid hq
      have HB6 := Lib.hid (hb5.trans hb6)
      clear hb5 hr5 hkl hq hb6 hkl2 hC hb0 hbc0 hbc1 ho kc
      go_wp2_with (at_builtin; refine app_go rfl (.tmp 12) (.tmp 25) 30 rfl _ _ _ _ rfl rfl hr ?_)
      go_roundw
      case rel => exact ⟨k + 1, ar, cr, by omega, by go_num, rfl, HQ.out, HB6.out⟩
      case measure => simp [intOf]; omega
    · obtain rfl : k = ps.length := by omega
      have e1 : bs.take ps.length = bs := List.take_of_length_le (by rw [HL.out]; exact Nat.le_refl _)
      have HRR : Hid (RowB wr w.heap.size (.slice ax ps.length cx) bs) := by have h := HR.out; rw [e1] at h; exact h
      clear e1 HR
      go_wp2_with fail
      go_ret
      exact ⟨_, rfl, HRR.out, HB.out⟩
end Go.Proofs.Yticjeknadddhoaa

namespace Go.Proofs.Yticjeknadddhoaa
set_option maxRecDepth 100000
set_option linter.unusedVariables false
open Go.RowKit

section
variable {w : World} {F : Nat → Prop} {b : Nat} {s : Sd} {Z : Zs1} {vW vO : Value}
theorem pwait_any (h : PZ w F b s Z vW vO) (hl : s.W.length ≤ 3000) : Calls Try.prog 21 #[.pointer (some ⟨b, 0, none⟩)] w fun e w' => (∃ a c, e = .returned (.slice a s.W.length c) ∧ OwO w' w.heap.size (.slice a s.W.length c) s.W) ∧ Below w.heap.size w w' := by
  obtain ⟨a, c, rfl⟩ := h.wform
  have C1 := Lib.hid (oclone_any (.slice a s.W.length c) s.W w h.wt.os hl)
  obtain ⟨c0, c1, c2, c3, c4, cf⟩ := h.cells
  clear h hl c0 c1 c2 c4 cf
  go_enter Try.func21, Try.ntmps21
  go_wp2_with fail
  refine C1.out.mono ?_
  rintro e w1 ⟨⟨a1, c1, rfl, ho⟩, hb⟩
  have HO := Lib.hid ho
  have HB := Lib.hid hb
  clear ho hb
  go_wp2_with fail
  go_ret
  exact ⟨⟨_, _, rfl, HO.out⟩, HB.out⟩
/-- What is out, as pointers and as batches. -/
theorem PZ.outs (h : PZ w F b s Z vW vO) : (Z.map fun z => z.2.1).length = (Z.map Prod.fst).length ∧ ∀ i, i < (Z.map Prod.fst).length → RdP w ((Z.map Prod.fst).getD i 0) ((Z.map fun z => z.2.1).getD i zb) := by
  refine ⟨by simp, fun i hi => ?_⟩
  rw [List.length_map] at hi
  have e1 : (Z.map Prod.fst).getD i 0 = Z[i].1 := by simp [List.getD, hi]
  have e2 : (Z.map fun z => z.2.1).getD i zb = Z[i].2.1 := by simp [List.getD, hi]
  rw [e1, e2]
  exact (h.snd _ (List.getElem_mem hi)).rd
theorem PZ.sout (h : PZ w F b s Z vW vO) : s.out = Z.map fun z => z.2.1 := by unfold Sd.out; rw [h.zl, List.map_map]; rfl
theorem btok_len {n : Int} {ys : List Ob} (h : BtOk n ys) : ys.length ≤ 3000 := by
  have := h.2.1
  omega
theorem PZ.olen (h : PZ w F b s Z vW vO) (hok : SdOk s) : Z.length ≤ 16 ∧ ∀ i, i < (Z.map Prod.fst).length → ((Z.map fun z => z.2.1).getD i zb).2.length ≤ 3000 := by
  constructor
  · have h1 := out_le hok
    have h2 := hok.win
    rw [h.sout, List.length_map] at h1
    omega
  · intro i hi
    rw [List.length_map] at hi
    have e2 : (Z.map fun z => z.2.1).getD i zb = Z[i].2.1 := by simp [List.getD, hi]
    rw [e2]
    exact btok_len (hok.bok Z[i].2 (by rw [h.zl]; exact List.mem_map.2 ⟨Z[i], List.getElem_mem hi, rfl⟩))
theorem pout_any (h : PZ w F b s Z vW vO) (hok : SdOk s) : Calls Try.prog 22 #[.pointer (some ⟨b, 0, none⟩)] w fun e w' => (∃ a c, e = .returned (.slice a s.out.length c) ∧ RowB w' w.heap.size (.slice a s.out.length c) s.out) ∧ Below w.heap.size w w' := by
  obtain ⟨ps, hps⟩ : ∃ ps, Z.map Prod.fst = ps := ⟨_, rfl⟩
  obtain ⟨k1, k2⟩ := h.outs
  obtain ⟨k3, k4⟩ := h.olen hok
  have hot : OwP w vO ps := hps ▸ h.ot
  have hln : ps.length = Z.length := by rw [← hps, List.length_map]
  rw [hps] at k1 k2 k4
  rw [← h.sout] at k1 k2 k4
  obtain ⟨a, c, rfl⟩ := own_form hot
  have C1 := Lib.hid (bof_any a c ps s.out w (Gs_of_own (R := RPT) hot).1 k1 k2 (by omega) k4)
  obtain ⟨c0, c1, c2, c3, c4, cf⟩ := h.cells
  clear h hok hps k1 k2 k3 k4 hot hln c0 c1 c2 c3 cf
  go_enter Try.func22, Try.ntmps22
  go_wp2_with fail
  refine C1.out.mono ?_
  rintro e w1 ⟨r, rfl, ho, hb⟩
  obtain ⟨a1, c1, rfl⟩ := ho.form'
  have HO := Lib.hid ho
  have HB := Lib.hid hb
  clear ho hb
  go_wp2_with fail
  go_ret
  exact ⟨⟨_, _, rfl, HO.out⟩, HB.out⟩
end
theorem bts_nil (w : World) : Bts w (.slice none 0 0) [] := .inl ⟨none, 0, rfl, rfl⟩
theorem os_nil (w : World) : Os w (.slice none 0 0) [] := .inl ⟨none, 0, rfl, fun _ => rfl, rfl⟩
theorem wait_nil (w : World) : Calls Try.prog 21 #[.pointer none] w fun e w' => ∃ r, e = .returned r ∧ Os w' r [] ∧ Below w.heap.size w w' := by
  go_enter Try.func21, Try.ntmps21
  go_wp2_with fail
  go_ret
  exact ⟨_, rfl, os_nil _, Below.refl _ _⟩
theorem out_nil (w : World) : Calls Try.prog 22 #[.pointer none] w fun e w' => ∃ r, e = .returned r ∧ Bts w' r [] ∧ Below w.heap.size w w' := by
  go_enter Try.func22, Try.ntmps22
  go_wp2_with fail
  go_ret
  exact ⟨_, rfl, bts_nil _, Below.refl _ _⟩
theorem send_nil (w : World) : Calls Try.prog 14 #[.pointer none] w fun e w' => ∃ r, e = .returned r ∧ Bts w' r [] ∧ Below w.heap.size w w' := by
  go_enter Try.func14, Try.ntmps14
  go_wp2_with fail
  go_step3
  go_wp2_with fail
  rw [Exit.noGoto_ret]
  show bodyPost _ _ _ _ _ _
  go_ret
  exact ⟨_, rfl, bts_nil _, Below.refl _ _⟩
theorem again_nil (w : World) : Calls Try.prog 16 #[.pointer none] w fun e w' => ∃ r, e = .returned (.tuple #[r, .bool true]) ∧ Bts w' r [] ∧ Below w.heap.size w w' := by
  go_enter Try.func16, Try.ntmps16
  go_wp2_with fail
  go_ret2
  exact ⟨_, rfl, bts_nil _, Below.refl _ _⟩
theorem got_nil (a : Ak) (w : World) : Calls Try.prog 18 #[.pointer none, .agg #[.int .i64 a.1, .int .i64 a.2.1, .int .i64 a.2.2.1, .int .i64 a.2.2.2]] w fun e w' => e = .returned (.int .i64 0) ∧ Below w.heap.size w w' := by
  have hb : Below w.heap.size w (w.alloc (.cells #[.int .i64 a.1, .int .i64 a.2.1, .int .i64 a.2.2.1, .int .i64 a.2.2.2] 42)) := (Below.refl _ w).alloc (Nat.le_refl _) _
  have HB := Lib.hid hb
  clear hb
  go_enter Try.func18, Try.ntmps18
  go_wp2_with fail
  go_ret
  exact ⟨rfl, HB.out⟩
theorem push_nil (y : Ob) (w : World) : Calls Try.prog 11 #[.pointer none, .agg #[.int .i64 y.k, .int .i64 y.x, .bool y.n, .int .i64 y.t, .int .i64 y.o, .int .i64 y.r, .int .i64 y.d, .int .i64 y.i, .int .i64 y.p, .int .i64 y.q, .int .i64 y.s, .int .i64 y.m]] w fun e w' => e = .returned (.int .i64 3) ∧ Below w.heap.size w w' := by
  have hb : Below w.heap.size w (w.alloc (.cells #[.int .i64 y.k, .int .i64 y.x, .bool y.n, .int .i64 y.t, .int .i64 y.o, .int .i64 y.r, .int .i64 y.d, .int .i64 y.i, .int .i64 y.p, .int .i64 y.q, .int .i64 y.s, .int .i64 y.m] 39)) := (Below.refl _ w).alloc (Nat.le_refl _) _
  have HB := Lib.hid hb
  clear hb
  go_enter Try.func11, Try.ntmps11
  go_wp2_with fail
  go_ret
  exact ⟨rfl, HB.out⟩
end Go.Proofs.Yticjeknadddhoaa

namespace Go.Proofs.Yticjeknadddhoaa
set_option maxRecDepth 100000
set_option linter.unusedVariables false
open Go.RowKit

theorem PZ.pt {w : World} {F : Nat → Prop} {b : Nat} {s : Sd} {Z : Zs1} {vW : Value} {a : Option Addr} {c n : Nat} (h : PZ w F b s Z vW (.slice a n c)) (hn : n = Z.length) {k : Nat} {z : Nat × Bt × Int} (hz : Z[k]? = some z) : ∃ g off, a = some ⟨g, off, none⟩ ∧ w.cell? ⟨g, off + k, none⟩ = some (ptr z.1) ∧ SndAt w F vW z.1 z.2 ∧ w.cell? ⟨z.1, 2, none⟩ = some (.int .i64 z.2.2) ∧ w.frozen? ⟨z.1, 2, none⟩ = false ∧ w.cell? ⟨z.1, 0, none⟩ = some (.int .i64 z.2.1.1) := by
  subst hn
  obtain ⟨hk, rfl⟩ := List.getElem?_eq_some_iff.1 hz
  obtain ⟨ps, hps⟩ : ∃ ps, Z.map Prod.fst = ps := ⟨_, rfl⟩
  have hpl : ps.length = Z.length := by rw [← hps, List.length_map]
  have hot : OwP w (.slice a ps.length c) ps := by rw [hpl, ← hps]; exact h.ot
  obtain ⟨g, off, h1, h2, h3⟩ := pt_at (Gs_of_own (R := RPT) hot).1 (i := k) (by omega)
  have e : ps.getD k 0 = Z[k].1 := by rw [← hps]; simp [List.getD, hk]
  rw [e] at h3
  have hs := h.snd _ (List.getElem_mem hk)
  obtain ⟨u, h4, h5⟩ := hs.cell
  exact ⟨g, off, h1, h3, hs, by simp [World.cell?, h4], by simp [World.frozen?, h4], by simp [World.cell?, h4]⟩
def incZ (z : Nat × Bt × Int) : Nat × Bt × Int := (z.1, z.2.1, z.2.2 + 1)
theorem agB_no {s : Sd} {Z : Zs1} (hz : s.L = Z.map Prod.snd) {k : Nat} {z : Nat × Bt × Int} (hk : Z[k]? = some z) (h : z.2.2 = s.tries) : agB s = false := by
  obtain ⟨hk', rfl⟩ := List.getElem?_eq_some_iff.1 hk
  unfold agB
  rw [List.all_eq_false]
  exact ⟨Z[k].2, by rw [hz]; exact List.mem_map.2 ⟨_, List.getElem_mem hk', rfl⟩, by simp; omega⟩
theorem agB_yes {s : Sd} {Z : Zs1} (hok : SdOk s) (hz : s.L = Z.map Prod.snd) (h : ∀ (k : Nat) (z : Nat × Bt × Int), Z[k]? = some z → z.2.2 ≠ s.tries) : agB s = true := by
  unfold agB
  rw [List.all_eq_true]
  intro e he
  have h1 := hok.sent e he
  rw [hz] at he
  obtain ⟨z, hz2, rfl⟩ := List.mem_map.1 he
  obtain ⟨k, hk, rfl⟩ := List.mem_iff_getElem.1 hz2
  have := h k Z[k] (List.getElem?_eq_getElem hk)
  exact decide_eq_true (by omega)
theorem agS_map {s : Sd} {Z : Zs1} (hb : agB s = true) (hz : s.L = Z.map Prod.snd) : { s with L := (Z.map incZ).map Prod.snd } = agS s := by
  unfold agS
  rw [if_pos hb, hz, List.map_map, List.map_map]
  rfl
theorem inc_step {Z : Zs1} {k : Nat} {z : Nat × Bt × Int} (hz : Z[k]? = some z) : (Z.take k).map incZ ++ Z.drop k = (Z.take k).map incZ ++ z :: Z.drop (k + 1) ∧ (Z.take (k + 1)).map incZ ++ Z.drop (k + 1) = (Z.take k).map incZ ++ incZ z :: Z.drop (k + 1) := by
  obtain ⟨hk, rfl⟩ := List.getElem?_eq_some_iff.1 hz
  constructor
  · rw [List.drop_eq_getElem_cons hk]
  · rw [List.take_succ_eq_append_getElem hk, List.map_append, List.append_assoc]
    rfl
theorem inc_at {Z : Zs1} {k : Nat} {z : Nat × Bt × Int} (hz : Z[k]? = some z) : ((Z.take k).map incZ ++ Z.drop k)[k]? = some z ∧ ((Z.take k).map incZ ++ Z.drop k).length = Z.length := by
  obtain ⟨hk, rfl⟩ := List.getElem?_eq_some_iff.1 hz
  have hl : ((Z.take k).map incZ).length = k := by rw [List.length_map, List.length_take]; omega
  refine ⟨?_, by rw [List.length_append, hl, List.length_drop]; omega⟩
  rw [List.getElem?_append_right (by omega), hl, Nat.sub_self, List.getElem?_drop, Nat.add_zero, List.getElem?_eq_getElem hk]
theorem inc_fst (X : Zs1) : (X.map incZ).map Prod.fst = X.map Prod.fst := by rw [List.map_map]; rfl
section
variable {w : World} {F : Nat → Prop} {b : Nat} {s : Sd} {Z : Zs1} {vW vO : Value}
set_option maxHeartbeats 8000000 in
theorem pagain_any (h : PZ w F b s Z vW vO) (hok : SdOk s) : Calls Try.prog 16 #[.pointer (some ⟨b, 0, none⟩)] w fun e w' => ∃ r, e = .returned (.tuple #[r, .bool (agB s)]) ∧ Chg F w w' ∧ (∃ Z', PZ w' F b (agS s) Z' vW vO) ∧ RowB w' w.heap.size r (agL s) := by
  obtain ⟨aO, cO, rfl⟩ := h.oform
  have HPZ := Lib.hid h
  have HOK := Lib.hid hok
  have hzl : Z.length ≤ 16 := (h.olen hok).1
  obtain ⟨c0, c1, c2, c3, c4, cf⟩ := h.cells
  clear h hok c0 c1 c2 c3 cf
  go_enter Try.func16, Try.ntmps16
  go_wp2_with fail
  clear c4
  go_loopw [15] (fun iv wr => ∃ k : Nat, k ≤ Z.length ∧ iv = .int .i64 k ∧ Hid (Below w.heap.size w wr) ∧ Hid (∀ (i : Nat) (z : Nat × Bt × Int), i < k → Z[i]? = some z → z.2.2 ≠ s.tries)) (fun i _ => Z.length - (intOf i).toNat)
  case atStart => exact ⟨0, Nat.zero_le _, rfl, Below.refl _ _, fun i z hi => absurd hi (Nat.not_lt_zero i)⟩
  case round =>
    obtain ⟨k, hk, rfl, HB, HN⟩ := hrel
    by_cases hlt : k < Z.length
    · have hr := HPZ.out.below HB.out
      obtain ⟨z, hz⟩ : ∃ z, Z[k]? = some z := ⟨_, List.getElem?_eq_getElem hlt⟩
      obtain ⟨g, off, rfl, p0, hs, p2, pf, -⟩ := hr.pt rfl hz
      obtain ⟨c0, c1, c2, c3, c4, cf⟩ := hr.cells
      obtain ⟨p, ⟨n, ys⟩, t⟩ := z
      simp only at p0 p2 pf
      have HR := Lib.hid hr
      have HZ := Lib.hid hz
      have CL := Lib.hid (fun W h => sload_any p 2 t W h)
      have hltz : (k : Int) < Z.length := by omega
      have hbl := hr.lt b hr.fb
      have hpl := hr.lt p hs.f
      have kc : ∀ w', Below wr.heap.size wr w' → w'.cell? ⟨b, 1, none⟩ = some (.int .i64 s.tries) ∧ w'.cell? ⟨p, 2, none⟩ = some (.int .i64 t) := fun w' h => ⟨(h.cell (p := ⟨b, 1, none⟩) hbl).trans c1, (h.cell (p := ⟨p, 2, none⟩) hpl).trans p2⟩
      clear c0 c1 c2 c3 c4 cf hs hr hz pf p2
      go_upto_region 6 with (fail)
      clear p0
      refine T3.wp_region_tail (C := fun w' => Below wr.heap.size wr w') (X := fun _ w w' => Below w.heap.size w w') (n := 45) 8 (by kernel_rfl) (by kernel_rfl) (by kernel_rfl) (by kernel_rfl) rfl (fun _ w => Below.refl _ w) (Below.refl _ _).drew ?_
      simp only [List.take_succ_cons, List.take_zero, List.drop_succ_cons, List.drop_zero]
      refine T3.w_is (fun _ w => Below.refl _ w) rfl _ (.inl rfl) (fun ρ w hC hc hfn hf => by have e5 : ρ (.tmp 5) = _ := hf 5 (by decide); (conv => lhs; simp [execOp, go_sem, hc, e5])) ?_
      refine T3.w_is (fun _ w => Below.refl _ w) rfl _ (.inl rfl) (fun ρ w hC hc hfn hf => by have e19 : ρ (.tmp 19) = _ := hf 19 (by decide); (conv => lhs; simp [execOp, go_sem, hc, e19])) ?_
      refine T3.w_is (fun _ w => Below.refl _ w) rfl _ (.inl rfl) (fun ρ w hC hc hfn hf => by have e20 : ρ (.tmp 20) = _ := hf 20 (by decide); (conv => lhs; simp [execOp, go_sem, hc, e20])) ?_
      refine T3.w_call rfl (Is _) (fun _ _ _ _ _ h _ => h) 36 (.inl rfl) (fun ρ w hC hc hfn hf => by have e21 : ρ (.tmp 21) = _ := hf 21 (by decide); exact ⟨_, by (conv => lhs; simp [execOp, resolve, invoke, go_sem, hc, hfn, e21]), (sload_any p 2 t w (kc w hC).2).mono fun e w' h => by obtain ⟨rfl, rfl⟩ := h; exact ⟨_, rfl, hC, Below.refl _ _, rfl⟩⟩) ?_
      refine T3.w_is (fun _ w => Below.refl _ w) rfl _ (.inl rfl) (fun ρ w hC hc hfn hf => by have e0 : ρ (.tmp 0) = _ := hf 0 (by decide); (conv => lhs; simp [execOp, go_sem, hc, e0])) ?_
      refine T3.w_is (fun _ w => Below.refl _ w) rfl _ (.inl rfl) (fun ρ w hC hc hfn hf => by have e23 : ρ (.tmp 23) = _ := hf 23 (by decide); (conv => lhs; simp [execOp, go_sem, hc, e23])) ?_
      refine T3.w_is (fun _ w => Below.refl _ w) rfl _ (.inl rfl) (fun ρ w hC hc hfn hf => by have e24 : ρ (.tmp 24) = _ := hf 24 (by decide); (conv => lhs; simp [execOp, go_sem, hc, e24])) ?_
      refine T3.w_is (fun _ w => Below.refl _ w) rfl _ (.inl rfl) (fun ρ w hC hc hfn hf => by have e25 : ρ (.tmp 25) = _ := hf 25 (by decide); (conv => lhs; simp [execOp, go_sem, hc, e25, kc w hC])) ?_
      intro A V5 hC hn hd hf
      have y0 : A.eval (.tmp 0) = _ := Eq.trans (hf 0) (by conv => lhs; simp [go_sem])
      have y1 : A.eval (.tmp 1) = _ := Eq.trans (hf 1) (by conv => lhs; simp [go_sem])
      have y2 : A.eval (.tmp 2) = _ := Eq.trans (hf 2) (by conv => lhs; simp [go_sem])
      have y3 : A.eval (.tmp 3) = _ := Eq.trans (hf 3) (by conv => lhs; simp [go_sem])
      have y4 : A.eval (.tmp 4) = _ := Eq.trans (hf 4) (by conv => lhs; simp [go_sem])
      have y5 : A.eval (.tmp 5) = _ := Eq.trans (hf 5) (by conv => lhs; simp [go_sem])
      have y6 : A.eval (.tmp 6) = _ := Eq.trans (hf 6) (by conv => lhs; simp [go_sem])
      have y7 : A.eval (.tmp 7) = _ := Eq.trans (hf 7) (by conv => lhs; simp [go_sem])
      have y8 : A.eval (.tmp 8) = _ := Eq.trans (hf 8) (by conv => lhs; simp [go_sem])
      have y9 : A.eval (.tmp 9) = _ := Eq.trans (hf 9) (by conv => lhs; simp [go_sem])
      have y10 : A.eval (.tmp 10) = _ := Eq.trans (hf 10) (by conv => lhs; simp [go_sem])
      have y11 : A.eval (.tmp 11) = _ := Eq.trans (hf 11) (by conv => lhs; simp [go_sem])
      have y12 : A.eval (.tmp 12) = _ := Eq.trans (hf 12) (by conv => lhs; simp [go_sem])
      have y13 : A.eval (.tmp 13) = _ := Eq.trans (hf 13) (by conv => lhs; simp [go_sem])
      have y14 : A.eval (.tmp 14) = _ := Eq.trans (hf 14) (by conv => lhs; simp [go_sem])
      have y15 : A.eval (.tmp 15) = _ := Eq.trans (hf 15) (by conv => lhs; simp [go_sem])
      have y16 : A.eval (.tmp 16) = _ := Eq.trans (hf 16) (by conv => lhs; simp [go_sem])
      have y17 : A.eval (.tmp 17) = _ := Eq.trans (hf 17) (by conv => lhs; simp [go_sem])
      have y18 : A.eval (.tmp 18) = _ := Eq.trans (hf 18) (by conv => lhs; simp [go_sem])
      have y19 : A.eval (.tmp 19) = _ := hf 19
      have y20 : A.eval (.tmp 20) = _ := hf 20
      have y21 : A.eval (.tmp 21) = _ := hf 21
      have y22 : A.eval (.tmp 22) = _ := hf 22
      have y23 : A.eval (.tmp 23) = _ := hf 23
      have y24 : A.eval (.tmp 24) = _ := hf 24
      have y25 : A.eval (.tmp 25) = _ := hf 25
      have y26 : A.eval (.tmp 26) = _ := hf 26
      have y27 : A.eval (.tmp 27) = _ := Eq.trans (hf 27) (by conv => lhs; simp [go_sem])
      have y28 : A.eval (.tmp 28) = _ := Eq.trans (hf 28) (by conv => lhs; simp [go_sem])
      have y29 : A.eval (.tmp 29) = _ := Eq.trans (hf 29) (by conv => lhs; simp [go_sem])
      have y30 : A.eval (.tmp 30) = _ := Eq.trans (hf 30) (by conv => lhs; simp [go_sem])
      have y31 : A.eval (.tmp 31) = _ := Eq.trans (hf 31) (by conv => lhs; simp [go_sem])
      have y32 : A.eval (.tmp 32) = _ := Eq.trans (hf 32) (by conv => lhs; simp [go_sem])
      have y33 : A.eval (.tmp 33) = _ := Eq.trans (hf 33) (by conv => lhs; simp [go_sem])
      have y34 : A.eval (.tmp 34) = _ := Eq.trans (hf 34) (by conv => lhs; simp [go_sem])
      have y35 : A.eval (.tmp 35) = _ := Eq.trans (hf 35) (by conv => lhs; simp [go_sem])
      have y36 : A.eval (.tmp 36) = _ := Eq.trans (hf 36) (by conv => lhs; simp [go_sem])
      have y37 : A.eval (.tmp 37) = _ := Eq.trans (hf 37) (by conv => lhs; simp [go_sem])
      have y38 : A.eval (.tmp 38) = _ := Eq.trans (hf 38) (by conv => lhs; simp [go_sem])
      have y39 : A.eval (.tmp 39) = _ := Eq.trans (hf 39) (by conv => lhs; simp [go_sem])
      have y40 : A.eval (.tmp 40) = _ := Eq.trans (hf 40) (by conv => lhs; simp [go_sem])
      have y41 : A.eval (.tmp 41) = _ := Eq.trans (hf 41) (by conv => lhs; simp [go_sem])
      have y42 : A.eval (.tmp 42) = _ := Eq.trans (hf 42) (by conv => lhs; simp [go_sem])
      have y43 : A.eval (.tmp 43) = _ := Eq.trans (hf 43) (by conv => lhs; simp [go_sem])
      have y44 : A.eval (.tmp 44) = _ := Eq.trans (hf 44) (by conv => lhs; simp [go_sem])
      clear hf
      have hA := frame_eq hn
      rw [show List.range 45 = [0, 1, 2, 3, 4, 5, 6, 7, 8, 9, 10, 11, 12, 13, 14, 15, 16, 17, 18, 19, 20, 21, 22, 23, 24, 25, 26, 27, 28, 29, 30, 31, 32, 33, 34, 35, 36, 37, 38, 39, 40, 41, 42, 43, 44] from rfl, hd] at hA
      simp only [List.map_cons, List.map_nil, y0, y1, y2, y3, y4, y5, y6, y7, y8, y9, y10, y11, y12, y13, y14, y15, y16, y17, y18, y19, y20, y21, y22, y23, y24, y25, y26, y27, y28, y29, y30, y31, y32, y33, y34, y35, y36, y37, y38, y39, y40, y41, y42, y43, y44] at hA
      clear y0 y1 y2 y3 y4 y5 y6 y7 y8 y9 y10 y11 y12 y13 y14 y15 y16 y17 y18 y19 y20 y21 y22 y23 y24 y25 y26 y27 y28 y29 y30 y31 y32 y33 y34 y35 y36 y37 y38 y39 y40 y41 y42 y43 y44
      clear hn hd
      subst hA
      have HB5 := Lib.hid (HB.out.trans (hC.mono HB.out.size))
      clear kc hC
      by_cases ht : t = s.tries
      · have hag : Hid (agB s = false) := agB_no HPZ.out.zl HZ.out ht
        have hb9 : (t == s.tries) = true := by rw [ht]; exact beq_self_eq_true _
        clear ht
        go_wp2_with fail
        go_ret2
        have hal : agL s = [] := by unfold agL; rw [hag.out]; rfl
        have has : agS s = s := by unfold agS; rw [hag.out]; rfl
        rw [hag.out, hal, has]
        exact ⟨_, rfl, chg0 HB5.out, ⟨Z, HPZ.out.below HB5.out⟩, RowB_nil _ _⟩
      · have hb9 : (t == s.tries) = false := beq_false_of_ne ht
        have HT := Lib.hid ht
        clear ht
        go_wp2_with fail
        go_roundw
        case rel => exact ⟨k + 1, by omega, by go_num, HB5.out, fun i z hi hz => by
          by_cases h9 : i = k
          · subst h9
            have e := hz.symm.trans HZ.out
            cases e
            exact HT.out
          · exact HN.out i z (by omega) hz⟩
        case measure => simp [intOf]; omega
    · obtain rfl : k = Z.length := by omega
      have hag : Hid (agB s = true) := agB_yes HOK.out HPZ.out.zl (fun i z hz => HN.out i z (List.getElem?_eq_some_iff.1 hz).1 hz)
      have hr := HPZ.out.below HB.out
      obtain ⟨c0, c1, c2, c3, c4, cf⟩ := hr.cells
      have HR := Lib.hid hr
      clear hr HN c0 c1 c2 c3 cf
      go_wp2_with fail
      clear c4
      obtain ⟨wo, hwo⟩ : ∃ wo, wo = wr := ⟨_, rfl⟩
      subst hwo
      go_loopw [34] (fun iv wr => ∃ (k : Nat), k ≤ Z.length ∧ iv = .int .i64 k ∧ Hid (Chg F w wr) ∧ Hid (wr.heap.size = wo.heap.size) ∧ Hid (PZ wr F b { s with L := ((Z.take k).map incZ ++ Z.drop k).map Prod.snd } ((Z.take k).map incZ ++ Z.drop k) vW (.slice aO Z.length cO))) (fun i _ => Z.length - (intOf i).toNat)
      case atStart =>
        refine ⟨0, Nat.zero_le _, rfl, ((chg0 HB.out) : Chg F w wo), rfl, ?_⟩
        have e : ({ s with L := ((Z.take 0).map incZ ++ Z.drop 0).map Prod.snd } : Sd) = s := by
          have e2 : ((Z.take 0).map incZ ++ Z.drop 0).map Prod.snd = s.L := HPZ.out.zl.symm
          rw [e2]
        rw [e]
        exact HR.out
      case round =>
        obtain ⟨k, hk, rfl, HC, HS, HP⟩ := hrel
        by_cases hlt : k < Z.length
        · obtain ⟨z, hz⟩ : ∃ z, Z[k]? = some z := ⟨_, List.getElem?_eq_getElem hlt⟩
          obtain ⟨q1, q2⟩ := inc_at hz
          obtain ⟨q3, q4⟩ := inc_step hz
          obtain ⟨g, off, rfl, p0, hs, p2, pf, -⟩ := HP.out.pt q2.symm q1
          have ht := HOK.out.sent z.2 (by rw [HPZ.out.zl]; exact List.mem_map.2 ⟨z, List.mem_of_getElem? hz, rfl⟩)
          have ht2 := HOK.out.tries
          have hP := HP.out
          rw [q3] at hP
          obtain ⟨p, ⟨n, ys⟩, t⟩ := z
          have hts := hP.tset (t + 1)
          simp only at p0 p2 pf ht
          have hw : IntKind.i64.wrap (t + 1) = t + 1 := by rw [IntKind.wrap_i64]; omega
          have CA := Lib.hid (sadd_any p 2 t 1 wr p2 pf hw)
          have HTS := Lib.hid hts
          have HFP := Lib.hid hs.f
          have HQ4 := Lib.hid q4
          have hltz : (k : Int) < Z.length := by omega
          clear q1 q2 q3 q4 p2 pf hs hP hts ht ht2 hw hz
          go_wp2_with fail
          refine CA.out.mono ?_
          rintro e w9 ⟨rfl, hw9⟩
          have HC9 : Hid (Chg F w w9) := hw9 ▸ HC.out.setCell (.inl HFP.out) _
          have HS9 : Hid (w9.heap.size = wo.heap.size) := by show _ = _; rw [hw9, ← HS.out]; simp [World.setCell]
          have HP9 : Hid (PZ w9 F b { s with L := ((Z.take (k + 1)).map incZ ++ Z.drop (k + 1)).map Prod.snd } ((Z.take (k + 1)).map incZ ++ Z.drop (k + 1)) vW (.slice (some ⟨g, off, none⟩) Z.length cO)) := by
            show PZ _ _ _ _ _ _ _
            rw [HQ4.out, hw9]
            exact HTS.out
          clear p0 hw9
          go_wp2_with fail
          go_roundw
          case rel => exact ⟨k + 1, by omega, by go_num, HC9.out, HS9.out, HP9.out⟩
          case measure => simp [intOf]; omega
        · obtain rfl : k = Z.length := by omega
          have e1 : (Z.take Z.length).map incZ ++ Z.drop Z.length = Z.map incZ := by simp
          have hP := HP.out
          rw [e1, agS_map hag.out HPZ.out.zl] at hP
          have CO := Lib.hid (pout_any hP (sdok_again HOK.out))
          have HPF := Lib.hid hP
          have hao : agL s = (agS s).out := by unfold agL; rw [if_pos hag.out, out_again]
          have HAO := Lib.hid hao
          clear e1 hP HP hao
          go_wp2_with fail
          refine CO.out.mono ?_
          rintro e w9 ⟨⟨a1, c1, rfl, ho⟩, hb⟩
          have HO := Lib.hid ho
          have HB9 := Lib.hid hb
          clear ho hb
          go_wp2_with fail
          go_ret2
          rw [hag.out, HAO.out]
          refine ⟨_, rfl, HC.out.trans (G := fun _ => False) (chg0 HB9.out) (fun _ _ e => e.elim), ⟨_, HPF.out.below HB9.out⟩, ?_⟩
          obtain ⟨vs, k1, k2, k3⟩ := HO.out
          have hsz : w.heap.size ≤ wr.heap.size := HC.out.size
          exact ⟨vs, k1, gown_mono k2 hsz, fun i hi => ⟨(k3 i hi).1, gown_mono (k3 i hi).2 hsz⟩⟩
end
end Go.Proofs.Yticjeknadddhoaa

namespace Go.Proofs.Yticjeknadddhoaa
set_option maxRecDepth 100000
set_option linter.unusedVariables false
open Go.RowKit

set_option maxHeartbeats 4000000 in
theorem gotc_any (g0 p : Nat) (i q x m n : Int) (w : World) (ha : Cells4a w g0 0 (i, q, x, m)) (hp : w.cell? ⟨p, 0, none⟩ = some (.int .i64 n)) :
    Calls Try.prog 39 #[ptr p, .pointer (some ⟨g0, 0, none⟩)] w fun e w' => e = .returned (.bool (decide (AkOne (i, q, x, m)) && hasN x m n)) ∧ Below w.heap.size w w' := by
  have hpl := World.block_lt_of_cell? w _ hp
  have kc : ∀ w', Below w.heap.size w w' → (w'.cell? ⟨g0, 0, none⟩ = some (.int .i64 i) ∧ w'.cell? ⟨g0, 1, none⟩ = some (.int .i64 q) ∧ w'.cell? ⟨g0, 2, none⟩ = some (.int .i64 x) ∧ w'.cell? ⟨g0, 3, none⟩ = some (.int .i64 m)) ∧ w'.cell? ⟨p, 0, none⟩ = some (.int .i64 n) := fun w' h => by
    have h4 := ha.below h
    simp only [Cells4a, Nat.zero_add] at h4
    exact ⟨h4, (h.cell (p := ⟨p, 0, none⟩) hpl).trans hp⟩
  clear ha hp hpl
  go_enter Try.func39, Try.ntmps39
  go_upto_region 1 with (fail)
  refine T3.wp_region_tail (C := fun w' => Below w.heap.size w w') (X := fun _ w w' => Below w.heap.size w w') (n := 11) 7 (by kernel_rfl) (by kernel_rfl) (by kernel_rfl) (by kernel_rfl) rfl (fun _ w => Below.refl _ w) (Below.refl _ _).drew ?_
  simp only [List.take_succ_cons, List.take_zero, List.drop_succ_cons, List.drop_zero]
  refine T3.w_is (fun _ w => Below.refl _ w) rfl _ (.inl rfl) (fun ρ w hC hc hfn hf => by have e1 : ρ (.tmp 1) = _ := hf 1 (by decide); (conv => lhs; simp [execOp, go_sem, hc, e1, kc w hC])) ?_
  refine T3.w_is (fun _ w => Below.refl _ w) rfl _ (.inl rfl) (fun ρ w hC hc hfn hf => by have e0 : ρ (.tmp 0) = _ := hf 0 (by decide); (conv => lhs; simp [execOp, go_sem, hc, e0])) ?_
  refine T3.w_is (fun _ w => Below.refl _ w) rfl _ (.inl rfl) (fun ρ w hC hc hfn hf => by have e5 : ρ (.tmp 5) = _ := hf 5 (by decide); (conv => lhs; simp [execOp, go_sem, hc, e5])) ?_
  refine T3.w_is (fun _ w => Below.refl _ w) rfl _ (.inl rfl) (fun ρ w hC hc hfn hf => by have e6 : ρ (.tmp 6) = _ := hf 6 (by decide); (conv => lhs; simp [execOp, go_sem, hc, e6])) ?_
  refine T3.w_is (fun _ w => Below.refl _ w) rfl _ (.inl rfl) (fun ρ w hC hc hfn hf => by have e7 : ρ (.tmp 7) = _ := hf 7 (by decide); (conv => lhs; simp [execOp, go_sem, hc, e7])) ?_
  refine T3.w_is (fun _ w => Below.refl _ w) rfl _ (.inl rfl) (fun ρ w hC hc hfn hf => by have e8 : ρ (.tmp 8) = _ := hf 8 (by decide); (conv => lhs; simp [execOp, go_sem, hc, e8, kc w hC])) ?_
  refine T3.w_call rfl (Is _) (fun _ _ _ _ _ h _ => h) 40 (.inl rfl) (fun ρ w hC hc hfn hf => by have e4 : ρ (.tmp 4) = _ := hf 4 (by decide); have e9 : ρ (.tmp 9) = _ := hf 9 (by decide); exact ⟨_, by (conv => lhs; simp [execOp, resolve, invoke, go_sem, hc, hfn, e4, e9]), (has_fix i q x m n w).mono fun e w' h => ⟨_, h.1, hC.trans (h.2.mono hC.size), h.2, rfl⟩⟩) ?_
  intro A V5 hC hn hd hf
  have y0 : A.eval (.tmp 0) = _ := Eq.trans (hf 0) (by conv => lhs; simp [go_sem])
  have y1 : A.eval (.tmp 1) = _ := Eq.trans (hf 1) (by conv => lhs; simp [go_sem])
  have y2 : A.eval (.tmp 2) = _ := Eq.trans (hf 2) (by conv => lhs; simp [go_sem])
  have y3 : A.eval (.tmp 3) = _ := Eq.trans (hf 3) (by conv => lhs; simp [go_sem])
  have y4 : A.eval (.tmp 4) = _ := hf 4
  have y5 : A.eval (.tmp 5) = _ := hf 5
  have y6 : A.eval (.tmp 6) = _ := hf 6
  have y7 : A.eval (.tmp 7) = _ := hf 7
  have y8 : A.eval (.tmp 8) = _ := hf 8
  have y9 : A.eval (.tmp 9) = _ := hf 9
  have y10 : A.eval (.tmp 10) = _ := hf 10
  clear hf
  have hA := frame_eq hn
  rw [show List.range 11 = [0, 1, 2, 3, 4, 5, 6, 7, 8, 9, 10] from rfl, hd] at hA
  simp only [List.map_cons, List.map_nil, y0, y1, y2, y3, y4, y5, y6, y7, y8, y9, y10] at hA
  clear y0 y1 y2 y3 y4 y5 y6 y7 y8 y9 y10
  clear hn hd
  subst hA
  have HC := Lib.hid hC
  clear kc hC
  go_wp2_with fail
  go_ret
  exact ⟨rfl, HC.out⟩
/-- What a closure tells of what lies at the pointers of Z, in whatever world in which only the row has turned. -/
def Tells (g0 g : Nat) (hit : Nat × Bt × Int → Bool) (Z : Zs1) (w0 : World) : Prop := ∀ z ∈ Z, ∀ W, Chg (fun k => k = g) w0 W → Calls Try.prog 39 #[ptr z.1, .pointer (some ⟨g0, 0, none⟩)] W fun e W' => e = .returned (.bool (hit z)) ∧ Below W.heap.size W W'
theorem row_pt {w : World} {g cap n : Nat} {ps : List Nat} (h : OwP w (.slice (some ⟨g, 0, none⟩) n cap) ps) {k p : Nat} (hk : ps[k]? = some p) : w.cell? ⟨g, k, none⟩ = some (ptr p) ∧ w.frozen? ⟨g, k, none⟩ = false := by
  obtain ⟨hk', rfl⟩ := List.getElem?_eq_some_iff.1 hk
  have hn : n = ps.length := by
    obtain ⟨a, c, e⟩ := own_form h
    simp only [Value.slice.injEq] at e
    exact e.2.1
  subst hn
  have h' : OwP w (.slice (some ⟨g, 0, none⟩) ps.length cap) ps := h
  obtain ⟨b, off, h1, h2, h3⟩ := pt_at (Gs_of_own (R := RPT) h').1 (i := k) hk'
  simp only [Option.some.injEq, Addr.mk.injEq, and_true] at h1
  obtain ⟨rfl, rfl⟩ := h1
  rw [Nat.zero_add] at h3
  have e : ps.getD k 0 = ps[k] := by simp [List.getD, hk']
  rw [e] at h3
  exact ⟨h3, World.ownsRow.frozenAt h k⟩
set_option maxHeartbeats 8000000 in
theorem idxf_any (g0 g cap : Nat) (hit : Nat × Bt × Int → Bool) (Z : Zs1) (w0 w : World) (hT : Tells g0 g hit Z w0) (hc : Chg (fun k => k = g) w0 w) (h : OwP w (.slice (some ⟨g, 0, none⟩) Z.length cap) (Z.map Prod.fst)) (hl : Z.length ≤ 1000) :
    Calls Try.prog 61 #[.slice (some ⟨g, 0, none⟩) Z.length cap, .func (.func 39) #[] #[.pointer (some ⟨g0, 0, none⟩)]] w fun e w' => ((∃ (k : Nat) (z : Nat × Bt × Int), Z[k]? = some z ∧ hit z = true ∧ (∀ (i : Nat) (y : Nat × Bt × Int), i < k → Z[i]? = some y → hit y = false) ∧ e = .returned (.int .i64 k)) ∨ ((∀ (i : Nat) (y : Nat × Bt × Int), Z[i]? = some y → hit y = false) ∧ e = .returned (.int .i64 (-1)))) ∧ Below w.heap.size w w' := by
  have HT := Lib.hid hT
  have HC := Lib.hid hc
  have HO := Lib.hid h
  clear hT hc h
  go_enter Try.func61, Try.ntmps61
  go_wp2_with fail
  go_loopw [8] (fun iv wr => ∃ k : Nat, k ≤ Z.length ∧ iv = .int .i64 k ∧ Hid (Below w.heap.size w wr) ∧ Hid (∀ (i : Nat) (y : Nat × Bt × Int), i < k → Z[i]? = some y → hit y = false)) (fun i _ => Z.length - (intOf i).toNat)
  case atStart => exact ⟨0, Nat.zero_le _, rfl, Below.refl _ _, fun i z hi => absurd hi (Nat.not_lt_zero i)⟩
  case round =>
    obtain ⟨k, hk, rfl, HB, HN⟩ := hrel
    by_cases hlt : k < Z.length
    · obtain ⟨z, hz⟩ : ∃ z, Z[k]? = some z := ⟨_, List.getElem?_eq_getElem hlt⟩
      have ho : OwP wr (.slice (some ⟨g, 0, none⟩) Z.length cap) (Z.map Prod.fst) := gown_below HO.out HB.out
      obtain ⟨p0, pf⟩ := row_pt ho (k := k) (p := z.1) (by rw [List.getElem?_map, hz]; rfl)
      have C1 := Lib.hid (HT.out z (List.mem_of_getElem? hz) wr (HC.out.trans (G := fun _ => False) (chg0 HB.out) (fun _ _ e => e.elim)))
      have HZ := Lib.hid hz
      have hltz : (k : Int) < Z.length := by omega
      obtain ⟨p, hp⟩ : ∃ p, z.1 = p := ⟨_, rfl⟩
      rw [hp] at p0 C1
      clear ho pf hz hp
      go_wp2_with fail
      refine C1.out.mono ?_
      rintro e w9 ⟨rfl, hb⟩
      have HB9 := Lib.hid (HB.out.trans (hb.mono HB.out.size))
      clear p0 hb
      cases hh : hit z with
      | true =>
        have HH := Lib.hid hh
        clear hh
        go_wp2_with fail
        go_ret
        exact ⟨.inl ⟨k, z, HZ.out, HH.out, HN.out, rfl⟩, HB9.out⟩
      | false =>
        have HH := Lib.hid hh
        clear hh
        go_wp2_with fail
        go_roundw
        case rel => exact ⟨k + 1, by omega, by go_num, HB9.out, fun i y hi hy => by
          by_cases h9 : i = k
          · subst h9
            have e := hy.symm.trans HZ.out
            cases e
            exact HH.out
          · exact HN.out i y (by omega) hy⟩
        case measure => simp [intOf]; omega
    · obtain rfl : k = Z.length := by omega
      go_wp2_with fail
      go_ret
      exact ⟨.inr ⟨fun i y hy => HN.out i y (List.getElem?_eq_some_iff.1 hy).1 hy, rfl⟩, HB.out⟩
end Go.Proofs.Yticjeknadddhoaa

namespace Go.Proofs.Yticjeknadddhoaa
set_option maxRecDepth 100000
set_option linter.unusedVariables false
open Go.RowKit

theorem gpt (ps : List Nat) : gflat RPT ps = ps.map ptr := by
  unfold gflat
  induction ps with
  | nil => rfl
  | cons p ps ih => exact congrArg (List.cons (ptr p)) ih
/-- The row as it stands while some are taken out: the first a are those kept of the first j, those behind j are as they were. -/
structure Mid (hit : Nat × Bt × Int → Bool) (Z : Zs1) (a j : Nat) (R : List Nat) : Prop where
  lt : a < j
  le : j ≤ Z.length
  len : R.length = Z.length
  cnt : a = ((Z.take j).filter fun z => !hit z).length
  head : R.take a = ((Z.take j).filter fun z => !hit z).map Prod.fst
  tail : R.drop j = (Z.drop j).map Prod.fst
theorem filt_all {hit : Nat × Bt × Int → Bool} {Z : Zs1} {k : Nat} (hn : ∀ (i : Nat) (y : Nat × Bt × Int), i < k → Z[i]? = some y → hit y = false) : (Z.take k).filter (fun z => !hit z) = Z.take k := by
  rw [List.filter_eq_self]
  intro y hy
  obtain ⟨i, hi, rfl⟩ := List.mem_iff_getElem.1 hy
  rw [List.length_take] at hi
  have := hn i Z[i] (by omega) (List.getElem?_eq_getElem (by omega))
  rw [List.getElem_take, this]
  rfl
theorem take_one {Z : Zs1} {j : Nat} {z : Nat × Bt × Int} (hz : Z[j]? = some z) : Z.take (j + 1) = Z.take j ++ [z] := by
  obtain ⟨hk, rfl⟩ := List.getElem?_eq_some_iff.1 hz
  rw [List.take_succ_eq_append_getElem hk]
theorem mid_start {hit : Nat × Bt × Int → Bool} {Z : Zs1} {k : Nat} {z : Nat × Bt × Int} (hz : Z[k]? = some z) (hh : hit z = true) (hn : ∀ (i : Nat) (y : Nat × Bt × Int), i < k → Z[i]? = some y → hit y = false) : Mid hit Z k (k + 1) (Z.map Prod.fst) := by
  have hk := (List.getElem?_eq_some_iff.1 hz).1
  have e : (Z.take (k + 1)).filter (fun z => !hit z) = Z.take k := by rw [take_one hz, List.filter_append, filt_all hn, List.filter_cons]; simp [hh]
  refine ⟨Nat.lt_succ_self k, hk, List.length_map .., ?_, ?_, ?_⟩
  · rw [e, List.length_take]; omega
  · rw [e, List.map_take]
  · rw [List.map_drop]
theorem Mid.at {hit : Nat × Bt × Int → Bool} {Z : Zs1} {a j : Nat} {R : List Nat} (h : Mid hit Z a j R) {z : Nat × Bt × Int} (hz : Z[j]? = some z) : R[j]? = some z.1 := by
  have e : R[j]? = (R.drop j)[0]? := by rw [List.getElem?_drop, Nat.add_zero]
  rw [e, h.tail, List.getElem?_map, List.getElem?_drop, Nat.add_zero, hz]
  rfl
theorem drop_one' (R : List Nat) (j : Nat) : R.drop (j + 1) = (R.drop j).drop 1 := by rw [List.drop_drop]
theorem Mid.hit {hit : Nat × Bt × Int → Bool} {Z : Zs1} {a j : Nat} {R : List Nat} (h : Mid hit Z a j R) {z : Nat × Bt × Int} (hz : Z[j]? = some z) (hh : hit z = true) : Mid hit Z a (j + 1) R := by
  have hk := (List.getElem?_eq_some_iff.1 hz).1
  have e : (Z.take (j + 1)).filter (fun z => !hit z) = (Z.take j).filter (fun z => !hit z) := by rw [take_one hz, List.filter_append, List.filter_cons]; simp [hh]
  exact ⟨by have := h.lt; omega, hk, h.len, by rw [e]; exact h.cnt, by rw [e]; exact h.head, by rw [drop_one', h.tail, ← List.map_drop, List.drop_drop]⟩
theorem Mid.keep {hit : Nat × Bt × Int → Bool} {Z : Zs1} {a j : Nat} {R : List Nat} (h : Mid hit Z a j R) {z : Nat × Bt × Int} (hz : Z[j]? = some z) (hh : hit z = false) : Mid hit Z (a + 1) (j + 1) (R.set a z.1) := by
  have hk := (List.getElem?_eq_some_iff.1 hz).1
  have hlt := h.lt
  have hlen := h.len
  have e : (Z.take (j + 1)).filter (fun z => !hit z) = (Z.take j).filter (fun z => !hit z) ++ [z] := by rw [take_one hz, List.filter_append, List.filter_cons]; simp [hh]
  refine ⟨by omega, hk, by rw [List.length_set]; exact h.len, by rw [e, List.length_append, ← h.cnt]; rfl, ?_, ?_⟩
  · rw [e, List.map_append, ← h.head, List.take_succ_eq_append_getElem (by rw [List.length_set]; omega), List.take_set, List.set_eq_of_length_le (by rw [List.length_take]; omega)]
    simp
  · rw [List.drop_set_of_lt (by omega), drop_one', h.tail, ← List.map_drop, List.drop_drop]
theorem OwP.set {w : World} {g cap n a : Nat} {R : List Nat} (h : OwP w (.slice (some ⟨g, 0, none⟩) n cap) R) (p : Nat) : OwP (w.setCell ⟨g, a, none⟩ (ptr p)) (.slice (some ⟨g, 0, none⟩) n cap) (R.set a p) := by
  unfold OwP at h ⊢
  have hn : n = R.length := by
    obtain ⟨a, c, e⟩ := own_form h
    simp only [Value.slice.injEq] at e
    exact e.2.1
  subst hn
  have := (World.ownsRow.stored h a (ptr p)).1
  rw [gpt, List.length_set]
  rw [gpt] at this
  rw [List.map_set]
  exact this
set_option maxHeartbeats 8000000 in
theorem delf_any (g0 g cap : Nat) (hit : Nat × Bt × Int → Bool) (Z : Zs1) (w : World) (hT : Tells g0 g hit Z w) (h : OwP w (.slice (some ⟨g, 0, none⟩) Z.length cap) (Z.map Prod.fst)) (hl : Z.length ≤ 1000) :
    Calls Try.prog 38 #[.slice (some ⟨g, 0, none⟩) Z.length cap, .func (.func 39) #[] #[.pointer (some ⟨g0, 0, none⟩)]] w fun e w' => (∃ n, n = (Z.filter fun z => !hit z).length ∧ e = .returned (.slice (some ⟨g, 0, none⟩) n cap) ∧ OwP w' (.slice (some ⟨g, 0, none⟩) n cap) ((Z.filter fun z => !hit z).map Prod.fst)) ∧ Chg (fun k => k = g) w w' := by
  have hcap : Z.length ≤ cap := by
    rcases h.2 with ⟨h1, _⟩ | ⟨g', cap', cur, hv, hb, hg, hnc, hcm, hcs, htake⟩
    · cases h1
    · simp only [Value.slice.injEq] at hv
      rw [List.length_map] at hnc
      omega
  have HT := Lib.hid hT
  have HO := Lib.hid h
  have C1 := Lib.hid (idxf_any g0 g cap hit Z w w hT (Chg.refl _ _) h hl)
  clear hT h
  go_enter Try.func38, Try.ntmps38
  go_wp2_with fail
  refine C1.out.mono ?_
  rintro e w1 ⟨hcase, hb⟩
  rcases hcase with ⟨k, z, hz, hh, hn, rfl⟩ | ⟨hn, rfl⟩
  · have hm := mid_start hz hh hn
    have HM := Lib.hid hm
    have hk : k < Z.length := (List.getElem?_eq_some_iff.1 hz).1
    have HB := Lib.hid hb
    have hne : ((k : Int) == -1) = false := beq_false_of_ne (by omega)
    clear hz hh hn hm hb C1
    go_wp2_with fail
    go_loopw [5, 6] (fun av jv wr => ∃ (a j : Nat) (R : List Nat), j ≤ Z.length ∧ a < j ∧ av = .int .i64 a ∧ jv = .int .i64 j ∧ Hid (Mid hit Z a j R) ∧ Hid (OwP wr (.slice (some ⟨g, 0, none⟩) Z.length cap) R) ∧ Hid (Chg (fun k => k = g) w wr)) (fun _ j _ => Z.length - (intOf j).toNat)
    case atStart => exact ⟨k, k + 1, _, hk, Nat.lt_succ_self k, rfl, by go_num, HM.out, gown_below HO.out HB.out, chg0 HB.out⟩
    case round =>
      obtain ⟨a, j, R, hj, haj, rfl, rfl, HMD, HR, HC⟩ := hrel
      clear HM HB hne
      by_cases hlt : j < Z.length
      · obtain ⟨z, hz⟩ : ∃ z, Z[j]? = some z := ⟨_, List.getElem?_eq_getElem hlt⟩
        obtain ⟨p0, pf⟩ := row_pt HR.out (HMD.out.at hz)
        have C2 := Lib.hid (HT.out z (List.mem_of_getElem? hz) wr HC.out)
        have HZ := Lib.hid hz
        have hltz : (j : Int) < Z.length := by omega
        obtain ⟨p, hp⟩ : ∃ p, z.1 = p := ⟨_, rfl⟩
        have HP := Lib.hid hp
        rw [hp] at p0 C2
        clear pf hz hp
        go_wp2_with fail
        refine C2.out.mono ?_
        rintro e w9 ⟨rfl, hb9⟩
        have hr9 : OwP w9 (.slice (some ⟨g, 0, none⟩) Z.length cap) R := gown_below HR.out hb9
        have HC9 : Hid (Chg (fun k => k = g) w w9) := HC.out.trans (G := fun _ => False) (chg0 hb9) (fun _ _ e => e.elim)
        have hra : a < R.length := by rw [HMD.out.len]; omega
        obtain ⟨q, hq⟩ : ∃ q, R[a]? = some q := ⟨_, List.getElem?_eq_getElem hra⟩
        obtain ⟨r0, rf⟩ := row_pt hr9 (k := a) (p := q) hq
        have HR9 := Lib.hid hr9
        clear p0 hb9 hr9 hra hq
        cases hh : hit z with
        | true =>
          have HM9 := Lib.hid (HMD.out.hit HZ.out hh)
          clear hh r0 rf
          go_wp2_with fail
          go_roundw
          case rel => exact ⟨a, j + 1, R, by omega, by omega, rfl, by go_num, HM9.out, HR9.out, HC9.out⟩
          case measure => simp [intOf]; omega
        | false =>
          have HM9 := Lib.hid (HMD.out.keep HZ.out hh)
          have HRS := Lib.hid (HR9.out.set (a := a) p)
          have HCS := Lib.hid (HC9.out.setCell (p := ⟨g, a, none⟩) (.inl rfl) (ptr p))
          clear hh
          go_wp2_with fail
          go_roundw
          case rel => exact ⟨a + 1, j + 1, R.set a z.1, by omega, by omega, by go_num, by go_num, HM9.out, by rw [HP.out]; exact HRS.out, HCS.out⟩
          case measure => simp [intOf]; omega
      · obtain rfl : j = Z.length := by omega
        have hm := HMD.out
        have hcn := hm.cnt
        have hhd := hm.head
        rw [List.take_of_length_le (Nat.le_refl _)] at hcn hhd
        have hrl : OwP wr (.slice (some ⟨g, 0, none⟩) R.length cap) R := by rw [hm.len]; exact HR.out
        have hh0 := own_head hrl (m := a) (by have := hm.len; omega)
        have hne2 : ¬ cap = a := by omega
        obtain ⟨w3, hr3, ho3, hg3⟩ := run_clear_own RPT (by decide) wr 0 0 g a (Z.length - a) cap (cap - a) _ hh0 (by omega) (by omega)
        have hr3' : (Builtin.clear_ #[61] 0 #[.slice (some ⟨g, a, none⟩) (Z.length - a) (cap - a)]).run Try.prog wr = .ok (.tuple #[]) w3 := by
          have e1 : a * RPT.K = a := Nat.mul_one a
          rw [e1] at hr3
          exact hr3
        have HO3 : Hid (OwP w3 (.slice (some ⟨g, 0, none⟩) a cap) ((Z.filter fun z => !hit z).map Prod.fst)) := by
          show w3.ownsRow 0 67 1 _ (List.map Prod.fst (Z.filter fun z => !hit z)).length _
          rw [gpt, ← hhd, List.length_take, Nat.min_eq_left (by have := hm.len; omega), List.map_take, ← gpt]
          have e1 : a * 1 = a := Nat.mul_one a
          have h9 : w3.ownsRow 0 67 1 (.slice (some ⟨g, 0, none⟩) a cap) a ((gflat RPT R).take (a * 1)) := ho3
          rw [e1] at h9
          exact h9
        have HCF : Hid (Chg (fun k => k = g) w w3) := HC.out.trans ((chg_grown hg3).mono (fun x _ e => by cases e; rfl)) (fun _ _ e => e)
        have HCN := Lib.hid hcn
        clear hm hcn hhd hrl hh0 hr3 ho3 hg3
        go_wp2_with fail
        go_ret
        exact ⟨⟨a, HCN.out, rfl, HO3.out⟩, HCF.out⟩
  · have e : (Z.filter fun z => !hit z) = Z := by
      have h9 := filt_all (k := Z.length) (fun i y _ hy => hn i y hy)
      rw [List.take_of_length_le (Nat.le_refl _)] at h9
      exact h9
    have HB := Lib.hid hb
    have HE := Lib.hid e
    clear hn hb e
    go_wp2_with fail
    go_ret
    exact ⟨⟨_, by rw [HE.out], rfl, by rw [HE.out]; exact gown_below HO.out HB.out⟩, chg0 HB.out⟩
end Go.Proofs.Yticjeknadddhoaa

namespace Go.Proofs.Yticjeknadddhoaa
set_option maxRecDepth 100000
set_option linter.unusedVariables false
open Go.RowKit

def hitA (a : Ak) (z : Nat × Bt × Int) : Bool := decide (AkOne a) && hasN a.2.2.1 a.2.2.2 z.2.1.1
theorem got_nilL {s : Sd} (a : Ak) (h : s.L = []) : gtS s a = s ∧ gtN s a = 0 := by
  have e : gtS s a = s := by
    unfold gtS
    split
    · rw [h]
      show ({ s with L := [] } : Sd) = s
      rw [← h]
    · rfl
  exact ⟨e, by unfold gtN; rw [e]; omega⟩
theorem got_far {s : Sd} {a : Ak} (h : ¬ far (fstN s) a.2.2.1 ≤ far (fstN s) s.nx) : gtS s a = s ∧ gtN s a = 0 := by
  have e : gtS s a = s := gtS_no (fun g => h g.2)
  exact ⟨e, by unfold gtN; rw [e]; omega⟩
theorem got_near {s : Sd} {a : Ak} {Z : Zs1} (hz : s.L = Z.map Prod.snd) (h : far (fstN s) a.2.2.1 ≤ far (fstN s) s.nx) : gtS s a = { s with L := (Z.filter fun z => !hitA a z).map Prod.snd } ∧ gtN s a = Z.length - (Z.filter fun z => !hitA a z).length := by
  have e : gtS s a = { s with L := (Z.filter fun z => !hitA a z).map Prod.snd } := by
    by_cases ha : AkOne a
    · rw [gtS_yes ⟨ha, h⟩, hz, List.filter_map]
      congr 2
      refine List.filter_congr fun z _ => ?_
      show kpt a z.2 = _
      unfold kpt hitA
      rw [decide_eq_true ha, Bool.true_and]
    · rw [gtS_no (fun g => ha g.1)]
      have e2 : (Z.filter fun z => !hitA a z) = Z := by
        rw [List.filter_eq_self]
        intro z _
        unfold hitA
        rw [decide_eq_false ha]
        rfl
      rw [e2, ← hz]
  refine ⟨e, ?_⟩
  unfold gtN
  rw [e, hz, List.length_map, List.length_map]
section
variable {w : World} {F : Nat → Prop} {b : Nat} {s : Sd} {Z : Zs1} {vW vO : Value}
theorem PZ.first (h : PZ w F b s Z vW vO) {z : Nat × Bt × Int} (hz : Z[0]? = some z) : fstN s = z.2.1.1 := by
  obtain ⟨hk, rfl⟩ := List.getElem?_eq_some_iff.1 hz
  unfold fstN
  rw [h.zl]
  cases Z with
  | nil => exact absurd hk (Nat.not_lt_zero 0)
  | cons z Z => rfl
set_option maxHeartbeats 8000000 in
theorem pgot_any (a1 a2 a3 a4 : Int) (h : PZ w F b s Z vW vO) (hok : SdOk s) : Calls Try.prog 18 #[.pointer (some ⟨b, 0, none⟩), .agg #[.int .i64 a1, .int .i64 a2, .int .i64 a3, .int .i64 a4]] w fun e w' => e = .returned (.int .i64 (gtN s (a1, a2, a3, a4))) ∧ Chg F w w' ∧ ∃ F' Z' vO', PZ w' F' b (gtS s (a1, a2, a3, a4)) Z' vW vO' ∧ ∀ k, F' k → F k ∨ w.heap.size ≤ k := by
  obtain ⟨aO, cO, rfl⟩ := h.oform
  have hzl : Z.length ≤ 16 := (h.olen hok).1
  obtain ⟨g0, hg0⟩ : ∃ g0, w.heap.size = g0 := ⟨_, rfl⟩
  obtain ⟨W1, hW1⟩ : ∃ W1, w.alloc (.cells #[.int .i64 a1, .int .i64 a2, .int .i64 a3, .int .i64 a4] 42) = W1 := ⟨_, rfl⟩
  have hb1 : Below w.heap.size w W1 := hW1 ▸ (Below.refl _ w).alloc (Nat.le_refl _) _
  have ha1 : Cells4a W1 g0 0 (a1, a2, a3, a4) := by rw [← hW1, ← hg0]; refine ⟨?_, ?_, ?_, ?_⟩ <;> simp
  have hFp : ∀ k, F k → k < g0 := fun k hk => hg0 ▸ h.lt k hk
  have H1 := Lib.hid (h.below hb1)
  have HW1 := Lib.hid hW1
  have HB1 := Lib.hid hb1
  have HG0 := Lib.hid hg0
  have HA1 := Lib.hid ha1
  have HFP := Lib.hid hFp
  have HSZ : Hid (w.heap.size ≤ W1.heap.size) := hb1.size
  clear hW1 hb1 hg0 ha1 hFp h
  by_cases hnil : Z = []
  · subst hnil
    obtain ⟨e1, e2⟩ := got_nilL (a1, a2, a3, a4) (s := s) H1.out.zl
    have HE1 := Lib.hid e1
    have HE2 := Lib.hid e2
    obtain ⟨c0, c1, c2, c3, c4, cf⟩ := H1.out.cells
    clear e1 e2 c0 c1 c2 c3 cf
    go_enter Try.func18, Try.ntmps18
    go_upto_region 1 with (fail)
    rw [HW1.out]
    try simp only [HG0.out]
    go_wp2_with fail
    go_ret
    rw [HE1.out, HE2.out]
    exact ⟨rfl, chg0 HB1.out, F, [], _, H1.out, fun k hk => .inl hk⟩
  · obtain ⟨z0, hz0⟩ : ∃ z0, Z[0]? = some z0 := by
      cases Z with
      | nil => exact absurd rfl hnil
      | cons z Z => exact ⟨z, rfl⟩
    have hpos : 0 < Z.length := (List.getElem?_eq_some_iff.1 hz0).1
    obtain ⟨g, cap, hgo⟩ : ∃ g cap, Value.slice aO Z.length cO = .slice (some ⟨g, 0, none⟩) Z.length cap := by
      rcases H1.out.ot.2 with ⟨_, h2⟩ | ⟨g, cap, cur, h2, _⟩
      · rw [List.length_map] at h2; omega
      · rw [List.length_map] at h2; exact ⟨g, cap, h2⟩
    simp only [Value.slice.injEq, true_and] at hgo
    obtain ⟨rfl, rfl⟩ := hgo
    obtain ⟨p0, pf⟩ := row_pt H1.out.ot (k := 0) (p := z0.1) (by rw [List.getElem?_map, hz0]; rfl)
    obtain ⟨x1, x2, hx, -, hs0, -, -, pn⟩ := H1.out.pt rfl hz0
    have hZ0 := hz0
    clear hx x1 x2
    have hf := H1.out.first hz0
    obtain ⟨n0, hn0⟩ : ∃ n0, fstN s = n0 := ⟨_, rfl⟩
    rw [← hf, hn0] at pn
    obtain ⟨q, hq⟩ : ∃ q, z0.1 = q := ⟨_, rfl⟩
    rw [hq] at p0 pn
    obtain ⟨c0, c1, c2, c3, c4, cf⟩ := H1.out.cells
    have HN0 := Lib.hid hn0
    have hb0 : ((Z.length : Int) == 0) = false := beq_false_of_ne (by omega)
    have hltz : (0 : Int) < Z.length := by omega
    obtain ⟨W2, hW2⟩ : ∃ W2, W2 = W1 := ⟨_, rfl⟩
    subst hW2
    have hbl := H1.out.lt b H1.out.fb
    have kc : ∀ w', Below W2.heap.size W2 w' → w'.cell? ⟨g0, 2, none⟩ = some (.int .i64 a3) ∧ w'.cell? ⟨b, 2, none⟩ = some (.int .i64 s.nx) := fun w' h => by
      have h4 := HA1.out.below h
      simp only [Cells4a, Nat.zero_add] at h4
      exact ⟨h4.2.2.1, (h.cell (p := ⟨b, 2, none⟩) hbl).trans c2⟩
    clear c0 c1 c2 c3 cf hnil pf hs0 hf hn0 hq hz0 hZ0 hbl
    go_enter Try.func18, Try.ntmps18
    go_upto_region 1 with (fail)
    rw [HW1.out]
    try simp only [HG0.out]
    go_upto_region 4 with (fail)
    clear p0 pn c4
    refine T3.wp_region_tail (C := fun w' => Below W2.heap.size W2 w') (X := fun _ w w' => Below w.heap.size w w') (n := 59) 10 (by kernel_rfl) (by kernel_rfl) (by kernel_rfl) (by kernel_rfl) rfl (fun _ w => Below.refl _ w) (Below.refl _ _).drew ?_
    simp only [List.take_succ_cons, List.take_zero, List.drop_succ_cons, List.drop_zero]
    refine T3.w_is (fun _ w => Below.refl _ w) rfl _ (.inl rfl) (fun ρ w hC hc hfn hf => by have e5 : ρ (.tmp 5) = _ := hf 5 (by decide); (conv => lhs; simp [execOp, go_sem, hc, e5])) ?_
    refine T3.w_is (fun _ w => Below.refl _ w) rfl _ (.inl rfl) (fun ρ w hC hc hfn hf => by have e3 : ρ (.tmp 3) = _ := hf 3 (by decide); (conv => lhs; simp [execOp, go_sem, hc, e3])) ?_
    refine T3.w_is (fun _ w => Below.refl _ w) rfl _ (.inl rfl) (fun ρ w hC hc hfn hf => by have e28 : ρ (.tmp 28) = _ := hf 28 (by decide); (conv => lhs; simp [execOp, go_sem, hc, e28, kc w hC])) ?_
    refine T3.w_call rfl (Is _) (fun _ _ _ _ _ h _ => h) 23 (.inl rfl) (fun ρ w hC hc hfn hf => by have e27 : ρ (.tmp 27) = _ := hf 27 (by decide); have e29 : ρ (.tmp 29) = _ := hf 29 (by decide); exact ⟨_, by (conv => lhs; simp [execOp, resolve, invoke, go_sem, hc, hfn, e27, e29]), (far_any n0 a3 w).mono fun e w' h => ⟨_, h.1, hC.trans (h.2.mono hC.size), h.2, rfl⟩⟩) ?_
    refine T3.w_is (fun _ w => Below.refl _ w) rfl _ (.inl rfl) (fun ρ w hC hc hfn hf => by have e5 : ρ (.tmp 5) = _ := hf 5 (by decide); (conv => lhs; simp [execOp, go_sem, hc, e5])) ?_
    refine T3.w_is (fun _ w => Below.refl _ w) rfl _ (.inl rfl) (fun ρ w hC hc hfn hf => by have e0 : ρ (.tmp 0) = _ := hf 0 (by decide); (conv => lhs; simp [execOp, go_sem, hc, e0])) ?_
    refine T3.w_is (fun _ w => Below.refl _ w) rfl _ (.inl rfl) (fun ρ w hC hc hfn hf => by have e32 : ρ (.tmp 32) = _ := hf 32 (by decide); (conv => lhs; simp [execOp, go_sem, hc, e32])) ?_
    refine T3.w_is (fun _ w => Below.refl _ w) rfl _ (.inl rfl) (fun ρ w hC hc hfn hf => by have e33 : ρ (.tmp 33) = _ := hf 33 (by decide); (conv => lhs; simp [execOp, go_sem, hc, e33])) ?_
    refine T3.w_is (fun _ w => Below.refl _ w) rfl _ (.inl rfl) (fun ρ w hC hc hfn hf => by have e34 : ρ (.tmp 34) = _ := hf 34 (by decide); (conv => lhs; simp [execOp, go_sem, hc, e34, kc w hC])) ?_
    refine T3.w_call rfl (Is _) (fun _ _ _ _ _ h _ => h) 23 (.inl rfl) (fun ρ w hC hc hfn hf => by have e31 : ρ (.tmp 31) = _ := hf 31 (by decide); have e35 : ρ (.tmp 35) = _ := hf 35 (by decide); exact ⟨_, by (conv => lhs; simp [execOp, resolve, invoke, go_sem, hc, hfn, e31, e35]), (far_any n0 s.nx w).mono fun e w' h => ⟨_, h.1, hC.trans (h.2.mono hC.size), h.2, rfl⟩⟩) ?_
    intro A V5 hC hn hd hf
    have y0 : A.eval (.tmp 0) = _ := Eq.trans (hf 0) (by conv => lhs; simp [go_sem])
    have y1 : A.eval (.tmp 1) = _ := Eq.trans (hf 1) (by conv => lhs; simp [go_sem])
    have y2 : A.eval (.tmp 2) = _ := Eq.trans (hf 2) (by conv => lhs; simp [go_sem])
    have y3 : A.eval (.tmp 3) = _ := Eq.trans (hf 3) (by conv => lhs; simp [go_sem])
    have y4 : A.eval (.tmp 4) = _ := Eq.trans (hf 4) (by conv => lhs; simp [go_sem])
    have y5 : A.eval (.tmp 5) = _ := Eq.trans (hf 5) (by conv => lhs; simp [go_sem])
    have y6 : A.eval (.tmp 6) = _ := Eq.trans (hf 6) (by conv => lhs; simp [go_sem])
    have y7 : A.eval (.tmp 7) = _ := Eq.trans (hf 7) (by conv => lhs; simp [go_sem])
    have y8 : A.eval (.tmp 8) = _ := Eq.trans (hf 8) (by conv => lhs; simp [go_sem])
    have y9 : A.eval (.tmp 9) = _ := Eq.trans (hf 9) (by conv => lhs; simp [go_sem])
    have y10 : A.eval (.tmp 10) = _ := Eq.trans (hf 10) (by conv => lhs; simp [go_sem])
    have y11 : A.eval (.tmp 11) = _ := Eq.trans (hf 11) (by conv => lhs; simp [go_sem])
    have y12 : A.eval (.tmp 12) = _ := Eq.trans (hf 12) (by conv => lhs; simp [go_sem])
    have y13 : A.eval (.tmp 13) = _ := Eq.trans (hf 13) (by conv => lhs; simp [go_sem])
    have y14 : A.eval (.tmp 14) = _ := Eq.trans (hf 14) (by conv => lhs; simp [go_sem])
    have y15 : A.eval (.tmp 15) = _ := Eq.trans (hf 15) (by conv => lhs; simp [go_sem])
    have y16 : A.eval (.tmp 16) = _ := Eq.trans (hf 16) (by conv => lhs; simp [go_sem])
    have y17 : A.eval (.tmp 17) = _ := Eq.trans (hf 17) (by conv => lhs; simp [go_sem])
    have y18 : A.eval (.tmp 18) = _ := Eq.trans (hf 18) (by conv => lhs; simp [go_sem])
    have y19 : A.eval (.tmp 19) = _ := Eq.trans (hf 19) (by conv => lhs; simp [go_sem])
    have y20 : A.eval (.tmp 20) = _ := Eq.trans (hf 20) (by conv => lhs; simp [go_sem])
    have y21 : A.eval (.tmp 21) = _ := Eq.trans (hf 21) (by conv => lhs; simp [go_sem])
    have y22 : A.eval (.tmp 22) = _ := Eq.trans (hf 22) (by conv => lhs; simp [go_sem])
    have y23 : A.eval (.tmp 23) = _ := Eq.trans (hf 23) (by conv => lhs; simp [go_sem])
    have y24 : A.eval (.tmp 24) = _ := Eq.trans (hf 24) (by conv => lhs; simp [go_sem])
    have y25 : A.eval (.tmp 25) = _ := Eq.trans (hf 25) (by conv => lhs; simp [go_sem])
    have y26 : A.eval (.tmp 26) = _ := Eq.trans (hf 26) (by conv => lhs; simp [go_sem])
    have y27 : A.eval (.tmp 27) = _ := hf 27
    have y28 : A.eval (.tmp 28) = _ := hf 28
    have y29 : A.eval (.tmp 29) = _ := hf 29
    have y30 : A.eval (.tmp 30) = _ := hf 30
    have y31 : A.eval (.tmp 31) = _ := hf 31
    have y32 : A.eval (.tmp 32) = _ := hf 32
    have y33 : A.eval (.tmp 33) = _ := hf 33
    have y34 : A.eval (.tmp 34) = _ := hf 34
    have y35 : A.eval (.tmp 35) = _ := hf 35
    have y36 : A.eval (.tmp 36) = _ := hf 36
    have y37 : A.eval (.tmp 37) = _ := Eq.trans (hf 37) (by conv => lhs; simp [go_sem])
    have y38 : A.eval (.tmp 38) = _ := Eq.trans (hf 38) (by conv => lhs; simp [go_sem])
    have y39 : A.eval (.tmp 39) = _ := Eq.trans (hf 39) (by conv => lhs; simp [go_sem])
    have y40 : A.eval (.tmp 40) = _ := Eq.trans (hf 40) (by conv => lhs; simp [go_sem])
    have y41 : A.eval (.tmp 41) = _ := Eq.trans (hf 41) (by conv => lhs; simp [go_sem])
    have y42 : A.eval (.tmp 42) = _ := Eq.trans (hf 42) (by conv => lhs; simp [go_sem])
    have y43 : A.eval (.tmp 43) = _ := Eq.trans (hf 43) (by conv => lhs; simp [go_sem])
    have y44 : A.eval (.tmp 44) = _ := Eq.trans (hf 44) (by conv => lhs; simp [go_sem])
    have y45 : A.eval (.tmp 45) = _ := Eq.trans (hf 45) (by conv => lhs; simp [go_sem])
    have y46 : A.eval (.tmp 46) = _ := Eq.trans (hf 46) (by conv => lhs; simp [go_sem])
    have y47 : A.eval (.tmp 47) = _ := Eq.trans (hf 47) (by conv => lhs; simp [go_sem])
    have y48 : A.eval (.tmp 48) = _ := Eq.trans (hf 48) (by conv => lhs; simp [go_sem])
    have y49 : A.eval (.tmp 49) = _ := Eq.trans (hf 49) (by conv => lhs; simp [go_sem])
    have y50 : A.eval (.tmp 50) = _ := Eq.trans (hf 50) (by conv => lhs; simp [go_sem])
    have y51 : A.eval (.tmp 51) = _ := Eq.trans (hf 51) (by conv => lhs; simp [go_sem])
    have y52 : A.eval (.tmp 52) = _ := Eq.trans (hf 52) (by conv => lhs; simp [go_sem])
    have y53 : A.eval (.tmp 53) = _ := Eq.trans (hf 53) (by conv => lhs; simp [go_sem])
    have y54 : A.eval (.tmp 54) = _ := Eq.trans (hf 54) (by conv => lhs; simp [go_sem])
    have y55 : A.eval (.tmp 55) = _ := Eq.trans (hf 55) (by conv => lhs; simp [go_sem])
    have y56 : A.eval (.tmp 56) = _ := Eq.trans (hf 56) (by conv => lhs; simp [go_sem])
    have y57 : A.eval (.tmp 57) = _ := Eq.trans (hf 57) (by conv => lhs; simp [go_sem])
    have y58 : A.eval (.tmp 58) = _ := Eq.trans (hf 58) (by conv => lhs; simp [go_sem])
    clear hf
    have hA := frame_eq hn
    rw [show List.range 59 = [0, 1, 2, 3, 4, 5, 6, 7, 8, 9, 10, 11, 12, 13, 14, 15, 16, 17, 18, 19, 20, 21, 22, 23, 24, 25, 26, 27, 28, 29, 30, 31, 32, 33, 34, 35, 36, 37, 38, 39, 40, 41, 42, 43, 44, 45, 46, 47, 48, 49, 50, 51, 52, 53, 54, 55, 56, 57, 58] from rfl, hd] at hA
    simp only [List.map_cons, List.map_nil, y0, y1, y2, y3, y4, y5, y6, y7, y8, y9, y10, y11, y12, y13, y14, y15, y16, y17, y18, y19, y20, y21, y22, y23, y24, y25, y26, y27, y28, y29, y30, y31, y32, y33, y34, y35, y36, y37, y38, y39, y40, y41, y42, y43, y44, y45, y46, y47, y48, y49, y50, y51, y52, y53, y54, y55, y56, y57, y58] at hA
    clear y0 y1 y2 y3 y4 y5 y6 y7 y8 y9 y10 y11 y12 y13 y14 y15 y16 y17 y18 y19 y20 y21 y22 y23 y24 y25 y26 y27 y28 y29 y30 y31 y32 y33 y34 y35 y36 y37 y38 y39 y40 y41 y42 y43 y44 y45 y46 y47 y48 y49 y50 y51 y52 y53 y54 y55 y56 y57 y58
    clear hn hd
    subst hA
    have HC5 := Lib.hid hC
    clear kc hC
    by_cases hgt : far n0 s.nx < far n0 a3
    · obtain ⟨e1, e2⟩ := got_far (s := s) (a := (a1, a2, a3, a4)) (by rw [HN0.out]; show ¬ far n0 a3 ≤ far n0 s.nx; omega)
      have HE1 := Lib.hid e1
      have HE2 := Lib.hid e2
      have hd : decide (far n0 s.nx < far n0 a3) = true := decide_eq_true hgt
      clear e1 e2
      go_wp2_with fail
      go_ret
      rw [HE1.out, HE2.out]
      exact ⟨rfl, chg0 (HB1.out.trans (HC5.out.mono HSZ.out)), F, Z, _, H1.out.below HC5.out, fun k hk => .inl hk⟩
    · obtain ⟨e1, e2⟩ := got_near (s := s) (a := (a1, a2, a3, a4)) H1.out.zl (by rw [HN0.out]; show far n0 a3 ≤ far n0 s.nx; omega)
      have HE1 := Lib.hid e1
      have HE2 := Lib.hid e2
      have hd : decide (far n0 s.nx < far n0 a3) = false := decide_eq_false hgt
      have h5 := H1.out.below HC5.out
      have ha5 := HA1.out.below HC5.out
      obtain ⟨c0, c1, c2, c3, c4, cf⟩ := h5.cells
      have H5 := Lib.hid h5
      have hgF : F g := h5.of g rfl
      have hgb : g ≠ b := (own_blk h5.ot rfl).ne h5.bt (by decide)
      have hT : Tells g0 g (hitA (a1, a2, a3, a4)) Z V5 := fun z hz W hc => by
        have hs := h5.snd z hz
        obtain ⟨u, h6, h7⟩ := hs.cell
        have hne : z.1 ≠ g := hs.blk.ne (own_blk h5.ot rfl) (by decide)
        have h8 : W.cell? ⟨z.1, 0, none⟩ = some (.int .i64 z.2.1.1) := by
          rw [World.cell?_of_block (hc.block z.1 (some_lt h6) hne)]
          simp [World.cell?, h6]
        have hg9 : g0 < V5.heap.size := World.block_lt_of_cell? V5 _ ha5.1
        have h9 : Cells4a W g0 0 (a1, a2, a3, a4) := by
          have f : ∀ {j : Nat} {v : Value}, V5.cell? ⟨g0, j, none⟩ = some v → W.cell? ⟨g0, j, none⟩ = some v := fun h => (hc.cell hg9 (fun e => by have := HFP.out g hgF; have e' : g0 = g := e; omega)).trans h
          obtain ⟨x0, x1, x2, x3⟩ := ha5
          exact ⟨f x0, f x1, f x2, f x3⟩
        exact gotc_any g0 z.1 a1 a2 a3 a4 z.2.1.1 W h9 h8
      have C7 := Lib.hid (delf_any g0 g cO (hitA (a1, a2, a3, a4)) Z V5 hT h5.ot (by omega))
      have hzl2 : (Z.filter fun z => !hitA (a1, a2, a3, a4) z).length ≤ Z.length := List.length_filter_le _ _
      have HGB := Lib.hid hgb
      have HGF := Lib.hid hgF
      clear e1 e2 c0 c1 c2 c3 h5 ha5 hT hgF hgb hgt
      go_wp2_with fail
      refine C7.out.mono ?_
      rintro e W7 ⟨⟨n, hn, rfl, ho⟩, hc⟩
      have hc7 : Chg (fun k => (Value.slice (some ⟨g, 0, none⟩) Z.length cO).ownBlock = some k) V5 W7 := hc.mono (fun x _ e => by rw [e]; rfl)
      have hp7 : W7.heap[b]? = some (.cells #[.int .i64 s.win, .int .i64 s.tries, .int .i64 s.nx, vW, .slice (some ⟨g, 0, none⟩) Z.length cO] 63) := (hc.block b (H5.out.lt b H5.out.fb) (fun e => HGB.out e.symm)).trans H5.out.hp
      have h8 := H5.out.oset hc7 (vO' := .slice (some ⟨g, 0, none⟩) n cO) (Z' := Z.filter fun z => !hitA (a1, a2, a3, a4) z) ho (fun g2 hg2 => .inl hg2) (H5.out.nd.sublist (List.filter_sublist.map _)) (fun z hz => H5.out.snd z (List.mem_filter.1 hz).1)
      have hcg : Chg F w (W7.setCell ⟨b, 4, none⟩ (.slice (some ⟨g, 0, none⟩) n cO)) := ((chg0 (HB1.out.trans (HC5.out.mono HSZ.out)) : Chg F w V5).trans (hc7.mono (fun x _ e => by cases e; exact HGF.out)) (fun _ _ e => e)).setCell (.inl H5.out.fb) _
      have c4' : W7.cell? ⟨b, 4, none⟩ = some (.slice (some ⟨g, 0, none⟩) Z.length cO) := by simp [World.cell?, hp7]
      have cf' : ∀ j, W7.frozen? ⟨b, j, none⟩ = false := fun j => by simp [World.frozen?, hp7]
      have HS8 : Hid (w.heap.size ≤ V5.heap.size) := (HB1.out.trans (HC5.out.mono HSZ.out)).size
      rw [← hn] at hzl2 HE2
      have HGN : Hid (((Z.length - n : Nat) : Int) = (Z.length : Int) - n) := by show _ = _; omega
      have H8 := Lib.hid h8
      have HCG := Lib.hid hcg
      have HNN := Lib.hid hn
      have hnn : n ≤ 16 := by omega
      clear c4 cf hc hc7 hp7 h8 hcg hn ho
      go_wp2_with fail
      go_ret
      rw [HE1.out, HE2.out, HGN.out]
      refine ⟨by go_num, HCG.out, _, _, _, H8.out, fun k hk => hk.imp (fun h => h) (fun h => Nat.le_trans HS8.out h.1)⟩
end
end Go.Proofs.Yticjeknadddhoaa

namespace Go.Proofs.Yticjeknadddhoaa
set_option maxRecDepth 100000
set_option linter.unusedVariables false
open Go.RowKit

theorem RowB.mono0 {w : World} {S S' : Nat} {v : Value} {bs : List Bt} (h : RowB w S v bs) (hS : S' ≤ S) : RowB w S' v bs := by
  obtain ⟨vs, k1, k2, k3⟩ := h
  exact ⟨vs, k1, gown_mono k2 hS, fun i hi => ⟨(k3 i hi).1, gown_mono (k3 i hi).2 hS⟩⟩
theorem ppack2 (v : Value) (ys : List Ob) (first : Int) (w : World) (hy : Os w v ys) (hok : AllOk ys) (hl : ys.length ≤ 1024) :
    Calls Try.prog 28 #[v, .int .i64 first, .int .i64 512] w fun e w' => ∃ a c, e = .returned (.tuple #[.slice a (packL 512 ys first).length c, .int .i64 0]) ∧ RowB w' w.heap.size (.slice a (packL 512 ys first).length c) (packL 512 ys first) ∧ Below w.heap.size w w' := by
  have hE : packE ys 512 = 0 := by unfold packE; rw [if_pos ⟨by decide, by decide, hok⟩, if_neg (by omega)]
  have hB : packB ys first 512 = packL 512 ys first := by unfold packB; rw [if_pos hE]
  refine (ppack_any v ys first 512 w hy (by omega)).mono ?_
  rintro e w' ⟨r, rfl, h1, h2⟩
  rw [hB] at h1
  rw [hE]
  obtain ⟨a, c, rfl⟩ := h1.form'
  exact ⟨a, c, rfl, h1, h2⟩
def NewPk (V : World) (l : List Bt) : Ty := fun v w => ∃ a c, v = .tuple #[.slice a l.length c, .int .i64 0] ∧ RowB w V.heap.size (.slice a l.length c) l
theorem NewPk.keeps (V : World) (l : List Bt) (k : Nat) : T3.Keeps (fun _ w w' => Below w.heap.size w w') k (NewPk V l) := fun _ _ _ _ _ ⟨a, c, h1, h2⟩ hb => ⟨a, c, h1, h2.below hb⟩
def NewRb (V : World) (l : List Bt) : Ty := fun v w => ∃ a c, v = .slice a l.length c ∧ RowB w V.heap.size (.slice a l.length c) l
theorem NewRb.keeps (V : World) (l : List Bt) (k : Nat) : T3.Keeps (fun _ w w' => Below w.heap.size w w') k (NewRb V l) := fun _ _ _ _ _ ⟨a, c, h1, h2⟩ hb => ⟨a, c, h1, h2.below hb⟩
theorem RowB.chg {G : Nat → Prop} {w w' : World} {S : Nat} {v : Value} {bs : List Bt} (h : RowB w S v bs) (hc : Chg G w w') (hG : ∀ k, S ≤ k → (BlkT w k 39 ∨ BlkT w k 55) → ¬ G k) : RowB w' S v bs := by
  obtain ⟨vs, k1, k2, k3⟩ := h
  exact ⟨vs, k1, own_chg k2 hc (fun g hg => hG g (k2.lt g hg).1 (.inr (own_blk k2 hg))), fun i hi => ⟨(k3 i hi).1, own_chg (k3 i hi).2 hc (fun g hg => hG g ((k3 i hi).2.lt g hg).1 (.inl (own_blk (k3 i hi).2 hg)))⟩⟩
/-- One batch of a row of one's own. -/
theorem RowB.at {w : World} {S : Nat} {a : Option Addr} {c : Nat} {bs : List Bt} (h : RowB w S (.slice a bs.length c) bs) {k : Nat} (hk : k < bs.length) : ∃ g u, a = some ⟨g, 0, none⟩ ∧ w.cell? ⟨g, k * 2, none⟩ = some (.int .i64 (bs.getD k zb).1) ∧ w.cell? ⟨g, k * 2 + 1, none⟩ = some u ∧ OwO w S u (bs.getD k zb).2 := by
  obtain ⟨vs, k1, k2, k3⟩ := h
  rcases k2.2 with ⟨_, h2⟩ | ⟨g, cap, cur, h2, _, hg, hnc, _, _, htake⟩
  · omega
  · simp only [Value.slice.injEq, true_and] at h2
    obtain ⟨rfl, rfl⟩ := h2
    obtain ⟨h3, h4⟩ := k3 k hk
    have hc : ∀ j, j < 2 → w.cell? ⟨g, k * 2 + j, none⟩ = (c2 (vs.getD k zv))[j]? := fun j hj => by
      rw [cell_of_row w g _ cur 55 (0, 0) hg, ← flat2_at vs k j (by omega) hj, ← htake, List.getElem?_take, if_pos (by omega)]
      simp
    refine ⟨g, (vs.getD k zv).2, rfl, ?_, hc 1 (by decide), h4⟩
    rw [← h3]
    exact hc 0 (by decide)
theorem own_zero {w : World} {S n size c : Nat} {e : TypeId} {a : Addr} {xs : List Value} (h : w.ownsRow S e size (.slice (some a) n c) n xs) : ∃ g, a = ⟨g, 0, none⟩ := by
  rcases h.2 with ⟨h1, _⟩ | ⟨g, cap, cur, hv, _⟩
  · cases h1
  · simp only [Value.slice.injEq, Option.some.injEq] at hv
    exact ⟨g, hv.1⟩
theorem gs_tail {w : World} {g N cap n : Nat} {ps : List Nat} (h : OwP w (.slice (some ⟨g, 0, none⟩) N cap) ps) (hN : N = ps.length) (hn : n ≤ N) : ∃ A0, (if cap = n then (some ⟨g, 0, none⟩ : Option Addr) else some ⟨g, n, none⟩) = some A0 ∧ Gs RPT w (.slice (some A0) (ps.drop n).length (cap - n)) (ps.drop n) := by
  have hcap : N ≤ cap ∧ g < w.heap.size := by
    rcases h.2 with ⟨h1, _⟩ | ⟨g', cap', cur, hv, hb, hg, hnc, hcm, hcs, htake⟩
    · cases h1
    · simp only [Value.slice.injEq, Option.some.injEq, Addr.mk.injEq, and_true] at hv
      obtain ⟨rfl, h2, rfl⟩ := hv
      have hnc' : ps.length ≤ cap := hnc
      exact ⟨by rw [hN]; exact hnc', some_lt hg⟩
  have hdl : (ps.drop n).length = ps.length - n := List.length_drop ..
  by_cases hc : cap = n
  · refine ⟨⟨g, 0, none⟩, if_pos hc, .inl ⟨some ⟨g, 0, none⟩, cap - n, ?_, (fun e => nomatch e), List.drop_of_length_le (show ps.length ≤ n by omega)⟩⟩
    rw [hdl, show ps.length - n = 0 by omega]
  · refine ⟨⟨g, n, none⟩, if_neg hc, .inr ⟨g, n, cap - n, rfl, (by show (ps.drop n).length ≤ cap - n; omega), hcap.2, fun i hi j hj => ?_⟩⟩
    have hi9 : i < (ps.drop n).length := hi
    have hi' : i < ps.length - n := by omega
    have hj' : j < 1 := hj
    obtain rfl : j = 0 := by omega
    have hp : ps[n + i]? = some (ps[n + i]'(by omega)) := List.getElem?_eq_getElem _
    obtain ⟨h1, _⟩ := row_pt (hN ▸ h : OwP w (.slice (some ⟨g, 0, none⟩) ps.length cap) ps) hp
    have e1 : (ps.drop n).getD i 0 = ps[n + i]'(by omega) := by simp [List.getD, show n + i < ps.length by omega]
    have e2 : n + i * RPT.K + 0 = n + i := congrArg (n + ·) (Nat.mul_one i)
    rw [e2, h1]
    show some (ptr _) = some (ptr ((ps.drop n).getD i 0))
    rw [e1]
/-- What Send answers at its end: what is new among what is out. -/
theorem sfin_any {w : World} {F : Nat → Prop} {b : Nat} {s : Sd} {Z : Zs1} {vW : Value} {g c n : Nat} (h : PZ w F b (sdS s) Z vW (.slice (some ⟨g, 0, none⟩) Z.length c)) (hok : SdOk s) (hn : n = s.L.length) :
    ∃ A0, (if c = n then (some ⟨g, 0, none⟩ : Option Addr) else some ⟨g, n, none⟩) = some A0 ∧ Calls Try.prog 30 #[.slice (some A0) (Z.length - n) (c - n)] w fun e w' => ∃ r, e = .returned r ∧ RowB w' w.heap.size r (sdT s) ∧ Below w.heap.size w w' := by
  have hok2 := sdok_send hok
  obtain ⟨k1, k2⟩ := h.outs
  obtain ⟨k3, k4⟩ := h.olen hok2
  have hzl : Z.length = n + (sdT s).length := by
    rw [← h.llen, hn]
    show (s.L ++ (sdT s).map fun p => (p, (1 : Int))).length = _
    rw [List.length_append, List.length_map]
  have hout : (Z.map fun z => z.2.1).drop n = sdT s := by
    rw [← h.sout]
    unfold Sd.out sdS
    rw [List.map_append, List.map_map, hn]
    have e : (s.L.map Prod.fst).length = s.L.length := List.length_map ..
    rw [← e, List.drop_left]
    exact List.map_id _
  obtain ⟨ps, hps⟩ : ∃ ps, Z.map Prod.fst = ps := ⟨_, rfl⟩
  have hot := h.ot
  rw [hps] at hot k1 k2 k4
  have hpl : ps.length = Z.length := by rw [← hps, List.length_map]
  obtain ⟨A0, hA, hg⟩ := gs_tail hot hpl.symm (n := n) (by omega)
  refine ⟨A0, hA, ?_⟩
  have hdl : (ps.drop n).length = Z.length - n := by rw [List.length_drop, hpl]
  rw [← hdl]
  have hg2 : ∀ i, i < (ps.drop n).length → (ps.drop n).getD i 0 = ps.getD (n + i) 0 := fun i hi => by simp [List.getD]
  have hb2 : ∀ i, (sdT s).getD i zb = (Z.map fun z => z.2.1).getD (n + i) zb := fun i => by rw [← hout]; simp [List.getD]
  exact bof_any (some A0) (c - n) (ps.drop n) (sdT s) w hg (by rw [hdl]; omega) (fun i hi => by rw [hg2 i hi, hb2 i]; exact k2 (n + i) (by omega)) (by omega) (fun i hi => by rw [hb2 i]; exact k4 (n + i) (by omega))
set_option maxHeartbeats 16000000 in
theorem psend_any {w0 : World} {F : Nat → Prop} {b : Nat} {s : Sd} {Z : Zs1} {vW vO : Value} (h : PZ w0 F b s Z vW vO) (hok : SdOk s) : Calls Try.prog 14 #[.pointer (some ⟨b, 0, none⟩)] w0 fun e w' => ∃ r S, e = .returned r ∧ Chg F w0 w' ∧ w0.heap.size ≤ S ∧ RowB w' S r (sdT s) ∧ ∃ F' Z' vW' vO', PZ w' F' b (sdS s) Z' vW' vO' ∧ (∀ k, F' k → F k ∨ w0.heap.size ≤ k) ∧ ∀ k, F' k → k < S := by
  obtain ⟨aO, cO, rfl⟩ := h.oform
  have hzl : Z.length ≤ 16 := (h.olen hok).1
  obtain ⟨P, hP⟩ : ∃ P, packL 512 s.W s.nx = P := ⟨_, rfl⟩
  have hm16 : (sdT s).length ≤ 16 := by
    have h1 := (sdT_top hok).2
    have h2 := hok.win
    have h3 := far_bd (fstN s) s.nx
    omega
  have hpl : P.length ≤ 1024 := by rw [← hP]; exact Nat.le_trans (packL_le 512 s.W s.nx) hok.wl
  have HPZ := Lib.hid h
  have HOK := Lib.hid hok
  have HPK := Lib.hid hP
  have HWL : Hid (s.W.length ≤ 3000) := Nat.le_trans hok.wl (by decide)
  have HWT : Hid (s.W.length ≤ 1024) := hok.wl
  have HAW : Hid (AllOk s.W) := hok.wok
  obtain ⟨c0, c1, c2, c3, c4, cf⟩ := h.cells
  have hbl := h.lt b h.fb
  have kc : ∀ w', Below w0.heap.size w0 w' → w'.cell? ⟨b, 2, none⟩ = some (.int .i64 s.nx) := fun w' hb => (hb.cell (p := ⟨b, 2, none⟩) hbl).trans c2
  clear h hok hP c0 c1 c2 c3 cf hbl
  go_enter Try.func14, Try.ntmps14
  go_wp2_with fail
  go_step3
  go_upto_region 4 with (fail)
  clear c4
  refine T3.wp_region_tail (C := fun w' => Below w0.heap.size w0 w') (X := fun _ w w' => Below w.heap.size w w') (n := 67) 11 (by kernel_rfl) (by kernel_rfl) (by kernel_rfl) (by kernel_rfl) rfl (fun _ w => Below.refl _ w) (Below.refl _ _).drew ?_
  simp only [List.take_succ_cons, List.take_zero, List.drop_succ_cons, List.drop_zero]
  refine T3.w_is (fun _ w => Below.refl _ w) rfl _ (.inl rfl) (fun ρ w hC hc hfn hf => by have e0 : ρ (.tmp 0) = _ := hf 0 (by decide); (conv => lhs; simp [execOp, go_sem, hc, e0])) ?_
  refine T3.w_call rfl (NewCl w0 s.W) (NewCl.keeps w0 _ 1) 21 (.inl rfl) (fun ρ w hC hc hfn hf => by have e18 : ρ (.tmp 18) = _ := hf 18 (by decide); exact ⟨_, by (conv => lhs; simp [execOp, resolve, invoke, go_sem, hc, hfn, e18]), (pwait_any (HPZ.out.below hC) HWL.out).mono fun e w' h => by obtain ⟨⟨a, c, h1, h2⟩, h3⟩ := h; exact ⟨_, h1, hC.trans (h3.mono hC.size), h3, ⟨a, c, rfl, h2.mono0 hC.size⟩⟩⟩) ?_
  refine T3.w_is (fun _ w => Below.refl _ w) rfl _ (.inl rfl) (fun ρ w hC hc hfn hf => by have e0 : ρ (.tmp 0) = _ := hf 0 (by decide); (conv => lhs; simp [execOp, go_sem, hc, e0])) ?_
  refine T3.w_is (fun _ w => Below.refl _ w) rfl _ (.inl rfl) (fun ρ w hC hc hfn hf => by have e20 : ρ (.tmp 20) = _ := hf 20 (by decide); (conv => lhs; simp [execOp, go_sem, hc, e20])) ?_
  refine T3.w_is (fun _ w => Below.refl _ w) rfl _ (.inl rfl) (fun ρ w hC hc hfn hf => by have e21 : ρ (.tmp 21) = _ := hf 21 (by decide); (conv => lhs; simp [execOp, go_sem, hc, e21])) ?_
  refine T3.w_is (fun _ w => Below.refl _ w) rfl _ (.inl rfl) (fun ρ w hC hc hfn hf => by have e22 : ρ (.tmp 22) = _ := hf 22 (by decide); (conv => lhs; simp [execOp, go_sem, hc, e22, kc w hC])) ?_
  refine T3.w_call rfl (NewPk w0 P) (NewPk.keeps w0 _ 6) 28 (.inl rfl) (fun ρ w hC hc hfn hf => by obtain ⟨a2, c2, e19, ho⟩ := (show (NewCl w0 s.W) (ρ (.tmp 19)) w from hf 19 (by decide)); have e23 : ρ (.tmp 23) = _ := hf 23 (by decide); exact ⟨_, by (conv => lhs; simp [execOp, resolve, invoke, go_sem, hc, hfn, e19, e23]), (ppack2 (.slice a2 s.W.length c2) s.W s.nx w ho.os HAW.out HWT.out).mono fun e w' h => by obtain ⟨a, c, h1, h2, h3⟩ := h; rw [HPK.out] at h1 h2; exact ⟨_, h1, hC.trans (h3.mono hC.size), h3, ⟨a, c, rfl, h2.mono0 hC.size⟩⟩⟩) ?_
  refine T3.w_make rfl (NewPk w0 P) (NewPk.keeps w0 _ 7) (.inl rfl) (fun ρ w hC hc hfn hf => by obtain ⟨a3, c3, e24, hr⟩ := (show (NewPk w0 P) (ρ (.tmp 24)) w from hf 24 (by decide)); exact ⟨_, _, by (conv => lhs; simp [execOp, go_sem, hc, e24]), hC, Below.refl _ _, ⟨a3, c3, rfl, hr⟩⟩) ?_
  refine T3.w_make rfl (NewRb w0 P) (NewRb.keeps w0 _ 8) (.inl rfl) (fun ρ w hC hc hfn hf => by obtain ⟨a4, c4, e17, hr⟩ := (show (NewPk w0 P) (ρ (.tmp 17)) w from hf 17 (by decide)); exact ⟨_, _, by (conv => lhs; simp [execOp, go_sem, hc, e17]), hC, Below.refl _ _, ⟨a4, c4, rfl, hr⟩⟩) ?_
  refine T3.w_is (fun _ w => Below.refl _ w) rfl _ (.inl rfl) (fun ρ w hC hc hfn hf => by obtain ⟨a4, c4, e17, hr⟩ := (show (NewPk w0 P) (ρ (.tmp 17)) w from hf 17 (by decide)); (conv => lhs; simp [execOp, go_sem, hc, e17])) ?_
  refine T3.w_make rfl (NewRb w0 P) (NewRb.keeps w0 _ 10) (.inl rfl) (fun ρ w hC hc hfn hf => by obtain ⟨a5, c5, e25, hr⟩ := (show (NewRb w0 P) (ρ (.tmp 25)) w from hf 25 (by decide)); exact ⟨_, _, by (conv => lhs; simp [execOp, go_sem, hc, e25]), hC, Below.refl _ _, ⟨a5, c5, rfl, hr⟩⟩) ?_
  intro A V5 hC hn hd hf
  obtain ⟨a2, c2, y19, -⟩ := (show (NewCl w0 s.W) (A.eval (.tmp 19)) V5 from hf 19)
  obtain ⟨a3, c3, y24, -⟩ := (show (NewPk w0 P) (A.eval (.tmp 24)) V5 from hf 24)
  obtain ⟨a4, c4, y17, -⟩ := (show (NewPk w0 P) (A.eval (.tmp 17)) V5 from hf 17)
  obtain ⟨a6, c6, y25, -⟩ := (show (NewRb w0 P) (A.eval (.tmp 25)) V5 from hf 25)
  obtain ⟨a5, c5, y4, hrow⟩ := (show (NewRb w0 P) (A.eval (.tmp 4)) V5 from hf 4)
  have y0 : A.eval (.tmp 0) = _ := Eq.trans (hf 0) (by conv => lhs; simp [go_sem])
  have y1 : A.eval (.tmp 1) = _ := Eq.trans (hf 1) (by conv => lhs; simp [go_sem])
  have y2 : A.eval (.tmp 2) = _ := Eq.trans (hf 2) (by conv => lhs; simp [go_sem])
  have y3 : A.eval (.tmp 3) = _ := Eq.trans (hf 3) (by conv => lhs; simp [go_sem])
  have y5 : A.eval (.tmp 5) = _ := Eq.trans (hf 5) (by conv => lhs; simp [go_sem])
  have y6 : A.eval (.tmp 6) = _ := Eq.trans (hf 6) (by conv => lhs; simp [go_sem])
  have y7 : A.eval (.tmp 7) = _ := Eq.trans (hf 7) (by conv => lhs; simp [go_sem])
  have y8 : A.eval (.tmp 8) = _ := Eq.trans (hf 8) (by conv => lhs; simp [go_sem])
  have y9 : A.eval (.tmp 9) = _ := Eq.trans (hf 9) (by conv => lhs; simp [go_sem])
  have y10 : A.eval (.tmp 10) = _ := Eq.trans (hf 10) (by conv => lhs; simp [go_sem])
  have y11 : A.eval (.tmp 11) = _ := Eq.trans (hf 11) (by conv => lhs; simp [go_sem])
  have y12 : A.eval (.tmp 12) = _ := Eq.trans (hf 12) (by conv => lhs; simp [go_sem])
  have y13 : A.eval (.tmp 13) = _ := Eq.trans (hf 13) (by conv => lhs; simp [go_sem])
  have y14 : A.eval (.tmp 14) = _ := Eq.trans (hf 14) (by conv => lhs; simp [go_sem])
  have y15 : A.eval (.tmp 15) = _ := Eq.trans (hf 15) (by conv => lhs; simp [go_sem])
  have y16 : A.eval (.tmp 16) = _ := Eq.trans (hf 16) (by conv => lhs; simp [go_sem])
  have y18 : A.eval (.tmp 18) = _ := hf 18
  have y20 : A.eval (.tmp 20) = _ := hf 20
  have y21 : A.eval (.tmp 21) = _ := hf 21
  have y22 : A.eval (.tmp 22) = _ := hf 22
  have y23 : A.eval (.tmp 23) = _ := hf 23
  have y26 : A.eval (.tmp 26) = _ := hf 26
  have y27 : A.eval (.tmp 27) = _ := Eq.trans (hf 27) (by conv => lhs; simp [go_sem])
  have y28 : A.eval (.tmp 28) = _ := Eq.trans (hf 28) (by conv => lhs; simp [go_sem])
  have y29 : A.eval (.tmp 29) = _ := Eq.trans (hf 29) (by conv => lhs; simp [go_sem])
  have y30 : A.eval (.tmp 30) = _ := Eq.trans (hf 30) (by conv => lhs; simp [go_sem])
  have y31 : A.eval (.tmp 31) = _ := Eq.trans (hf 31) (by conv => lhs; simp [go_sem])
  have y32 : A.eval (.tmp 32) = _ := Eq.trans (hf 32) (by conv => lhs; simp [go_sem])
  have y33 : A.eval (.tmp 33) = _ := Eq.trans (hf 33) (by conv => lhs; simp [go_sem])
  have y34 : A.eval (.tmp 34) = _ := Eq.trans (hf 34) (by conv => lhs; simp [go_sem])
  have y35 : A.eval (.tmp 35) = _ := Eq.trans (hf 35) (by conv => lhs; simp [go_sem])
  have y36 : A.eval (.tmp 36) = _ := Eq.trans (hf 36) (by conv => lhs; simp [go_sem])
  have y37 : A.eval (.tmp 37) = _ := Eq.trans (hf 37) (by conv => lhs; simp [go_sem])
  have y38 : A.eval (.tmp 38) = _ := Eq.trans (hf 38) (by conv => lhs; simp [go_sem])
  have y39 : A.eval (.tmp 39) = _ := Eq.trans (hf 39) (by conv => lhs; simp [go_sem])
  have y40 : A.eval (.tmp 40) = _ := Eq.trans (hf 40) (by conv => lhs; simp [go_sem])
  have y41 : A.eval (.tmp 41) = _ := Eq.trans (hf 41) (by conv => lhs; simp [go_sem])
  have y42 : A.eval (.tmp 42) = _ := Eq.trans (hf 42) (by conv => lhs; simp [go_sem])
  have y43 : A.eval (.tmp 43) = _ := Eq.trans (hf 43) (by conv => lhs; simp [go_sem])
  have y44 : A.eval (.tmp 44) = _ := Eq.trans (hf 44) (by conv => lhs; simp [go_sem])
  have y45 : A.eval (.tmp 45) = _ := Eq.trans (hf 45) (by conv => lhs; simp [go_sem])
  have y46 : A.eval (.tmp 46) = _ := Eq.trans (hf 46) (by conv => lhs; simp [go_sem])
  have y47 : A.eval (.tmp 47) = _ := Eq.trans (hf 47) (by conv => lhs; simp [go_sem])
  have y48 : A.eval (.tmp 48) = _ := Eq.trans (hf 48) (by conv => lhs; simp [go_sem])
  have y49 : A.eval (.tmp 49) = _ := Eq.trans (hf 49) (by conv => lhs; simp [go_sem])
  have y50 : A.eval (.tmp 50) = _ := Eq.trans (hf 50) (by conv => lhs; simp [go_sem])
  have y51 : A.eval (.tmp 51) = _ := Eq.trans (hf 51) (by conv => lhs; simp [go_sem])
  have y52 : A.eval (.tmp 52) = _ := Eq.trans (hf 52) (by conv => lhs; simp [go_sem])
  have y53 : A.eval (.tmp 53) = _ := Eq.trans (hf 53) (by conv => lhs; simp [go_sem])
  have y54 : A.eval (.tmp 54) = _ := Eq.trans (hf 54) (by conv => lhs; simp [go_sem])
  have y55 : A.eval (.tmp 55) = _ := Eq.trans (hf 55) (by conv => lhs; simp [go_sem])
  have y56 : A.eval (.tmp 56) = _ := Eq.trans (hf 56) (by conv => lhs; simp [go_sem])
  have y57 : A.eval (.tmp 57) = _ := Eq.trans (hf 57) (by conv => lhs; simp [go_sem])
  have y58 : A.eval (.tmp 58) = _ := Eq.trans (hf 58) (by conv => lhs; simp [go_sem])
  have y59 : A.eval (.tmp 59) = _ := Eq.trans (hf 59) (by conv => lhs; simp [go_sem])
  have y60 : A.eval (.tmp 60) = _ := Eq.trans (hf 60) (by conv => lhs; simp [go_sem])
  have y61 : A.eval (.tmp 61) = _ := Eq.trans (hf 61) (by conv => lhs; simp [go_sem])
  have y62 : A.eval (.tmp 62) = _ := Eq.trans (hf 62) (by conv => lhs; simp [go_sem])
  have y63 : A.eval (.tmp 63) = _ := Eq.trans (hf 63) (by conv => lhs; simp [go_sem])
  have y64 : A.eval (.tmp 64) = _ := Eq.trans (hf 64) (by conv => lhs; simp [go_sem])
  have y65 : A.eval (.tmp 65) = _ := Eq.trans (hf 65) (by conv => lhs; simp [go_sem])
  have y66 : A.eval (.tmp 66) = _ := Eq.trans (hf 66) (by conv => lhs; simp [go_sem])
  clear hf
  have hA := frame_eq hn
  rw [show List.range 67 = [0, 1, 2, 3, 4, 5, 6, 7, 8, 9, 10, 11, 12, 13, 14, 15, 16, 17, 18, 19, 20, 21, 22, 23, 24, 25, 26, 27, 28, 29, 30, 31, 32, 33, 34, 35, 36, 37, 38, 39, 40, 41, 42, 43, 44, 45, 46, 47, 48, 49, 50, 51, 52, 53, 54, 55, 56, 57, 58, 59, 60, 61, 62, 63, 64, 65, 66] from rfl, hd] at hA
  simp only [List.map_cons, List.map_nil, y0, y1, y2, y3, y4, y5, y6, y7, y8, y9, y10, y11, y12, y13, y14, y15, y16, y17, y18, y19, y20, y21, y22, y23, y24, y25, y26, y27, y28, y29, y30, y31, y32, y33, y34, y35, y36, y37, y38, y39, y40, y41, y42, y43, y44, y45, y46, y47, y48, y49, y50, y51, y52, y53, y54, y55, y56, y57, y58, y59, y60, y61, y62, y63, y64, y65, y66] at hA
  clear y0 y1 y2 y3 y4 y5 y6 y7 y8 y9 y10 y11 y12 y13 y14 y15 y16 y17 y18 y19 y20 y21 y22 y23 y24 y25 y26 y27 y28 y29 y30 y31 y32 y33 y34 y35 y36 y37 y38 y39 y40 y41 y42 y43 y44 y45 y46 y47 y48 y49 y50 y51 y52 y53 y54 y55 y56 y57 y58 y59 y60 y61 y62 y63 y64 y65 y66
  clear hn hd
  subst hA
  have HC5 := Lib.hid hC
  have HROW := Lib.hid hrow
  clear kc hC hrow
  go_wp2_with fail
  go_step3
  go_wp2_with fail
  go_loopw [29] (fun iv wr => ∃ (k : Nat) (Zk : Zs1) (vWk : Value) (aK : Option Addr) (cK : Nat), k ≤ (sdT s).length ∧ k ≤ P.length ∧ iv = .int .i64 k ∧ Hid (Zk.length = Z.length + k) ∧ Zk.length ≤ 100 ∧ Hid (PZ wr (FN F w0 wr) b (stk s k) Zk vWk (.slice aK Zk.length cK)) ∧ Hid (∀ g, vWk.ownBlock = some g → vW.ownBlock = some g) ∧ Hid (RowB wr w0.heap.size (.slice a5 P.length c5) P) ∧ Hid (Chg F w0 wr)) (fun i _ => P.length - (intOf i).toNat)
  case atStart =>
    refine ⟨0, Z, vW, aO, cO, Nat.zero_le _, Nat.zero_le _, rfl, rfl, by omega, ?_, fun g hg => hg, HROW.out, chg0 HC5.out⟩
    show PZ _ _ _ _ _ _ _
    rw [stk_zero]
    exact (HPZ.out.below HC5.out).mono (fun k hk => .inl hk) (FN.lt HPZ.out.lt HC5.out.size)
  case round =>
    obtain ⟨k, Zk, vWk, aK, cK, hkm, hkp, rfl, HZK, hzk, HP, HV, HR, HC⟩ := hrel
    clear HROW HC5
    by_cases hlt : k < P.length
    · obtain ⟨g2, u, hg2, q0, q1, q2⟩ := HR.out.at hlt
      obtain ⟨x, hx⟩ : ∃ x, P.getD k zb = x := ⟨_, rfl⟩
      rw [hx] at q0 q2
      obtain ⟨N, ys⟩ := x
      simp only at q0 q2
      obtain ⟨au, cu, rfl⟩ := own_form q2
      obtain ⟨g9, hg9⟩ : ∃ g9, wr.heap.size = g9 := ⟨_, rfl⟩
      obtain ⟨V, hV⟩ : ∃ V, wr.alloc (.cells #[.int .i64 N, .slice au ys.length cu] 55) = V := ⟨_, rfl⟩
      have hbv : Below wr.heap.size wr V := hV ▸ (Below.refl _ wr).alloc (Nat.le_refl _) _
      have hvg : V.heap[g9]? = some (.cells #[.int .i64 N, .slice au ys.length cu] 55) := by rw [← hV, ← hg9]; exact heap_alloc_new wr _
      have hPV := (HP.out.below hbv).mono (F' := FN F w0 V) (fun y hy => hy.imp (fun e => e) (fun e => ⟨e.1, Nat.lt_of_lt_of_le e.2 hbv.size⟩)) (FN.lt HPZ.out.lt (Nat.le_trans HC.out.size hbv.size))
      have HRV := Lib.hid (HR.out.below hbv)
      have HUV := Lib.hid (q2.below hbv)
      have HCV : Hid (Chg F w0 V) := HC.out.trans (G := fun _ => False) (chg0 hbv) (fun _ _ e => e.elim)
      have HX := Lib.hid hx
      have HG9 := Lib.hid hg9
      have HVV := Lib.hid hV
      have HVG := Lib.hid hvg
      obtain ⟨d0, d1, d2, d3, d4, df⟩ := hPV.cells
      have HPV := Lib.hid hPV
      have HG2 := Lib.hid hg2
      have hltz : (k : Int) < P.length := by omega
      clear d0 d1 d2 d3 df hx q2 hV hbv hvg hPV hg9
      subst hg2
      go_upto_region 8 with (fail)
      rw [HVV.out]
      try simp only [HG9.out]
      clear q0 q1
      go_wp2_with fail
      clear d4
      obtain ⟨wo, hwo⟩ : ∃ wo, wo = wr := ⟨_, rfl⟩
      subst hwo
      go_loopw [38] (fun jv wi => ∃ j : Nat, j ≤ Zk.length ∧ jv = .int .i64 j ∧ Hid (Below V.heap.size V wi) ∧ Hid (∀ (i : Nat) (y : Nat × Bt × Int), i < j → Zk[i]? = some y → withB N y.2.1.1 s.win = true)) (fun j _ => Zk.length - (intOf j).toNat)
      case atStart => exact ⟨0, Nat.zero_le _, rfl, Below.refl _ _, fun i y hi => absurd hi (Nat.not_lt_zero i)⟩
      case round =>
        obtain ⟨j, hj, rfl, HB, HN⟩ := hrel
        by_cases hlj : j < Zk.length
        · obtain ⟨z, hz⟩ : ∃ z, Zk[j]? = some z := ⟨_, List.getElem?_eq_getElem hlj⟩
          have hpi := HPV.out.below HB.out
          obtain ⟨gz, oz, hgz, p0, hs, -, -, pn⟩ := hpi.pt rfl hz
          obtain ⟨rw9, h9⟩ : ∃ r9, wr.ownsRow 0 67 1 (.slice aK Zk.length cK) Zk.length r9 := by
            have h9 := hpi.ot
            unfold OwP at h9
            rw [List.length_map] at h9
            exact ⟨_, h9⟩
          rw [hgz] at h9
          obtain ⟨gz2, hoz⟩ := own_zero h9
          clear h9
          simp only [Addr.mk.injEq, and_true] at hoz
          obtain ⟨rfl, rfl⟩ := hoz
          rw [Nat.zero_add] at p0
          obtain ⟨d0, d1, d2, d3, d4, df⟩ := hpi.cells
          have d0' : wr.cell? ⟨b, 0, none⟩ = some (.int .i64 s.win) := d0
          obtain ⟨p, ⟨⟨m, zs⟩, t⟩⟩ := z
          simp only at p0 pn
          have hg9b : V.heap[g9]? = some (.cells #[.int .i64 N, .slice au ys.length cu] 55) := HVG.out
          have v0 : wr.cell? ⟨g9, 0, none⟩ = some (.int .i64 N) := by
            rw [HB.out.cell (p := ⟨g9, 0, none⟩) (some_lt hg9b)]
            simp [World.cell?, hg9b]
          have l1 := World.block_lt_of_cell? wr _ d0'
          have l2 := World.block_lt_of_cell? wr _ pn
          have l3 := World.block_lt_of_cell? wr _ v0
          have kc : ∀ w', Below wr.heap.size wr w' → w'.cell? ⟨b, 0, none⟩ = some (.int .i64 s.win) ∧ w'.cell? ⟨p, 0, none⟩ = some (.int .i64 m) ∧ w'.cell? ⟨g9, 0, none⟩ = some (.int .i64 N) := fun w' h => ⟨(h.cell (p := ⟨b, 0, none⟩) l1).trans d0', (h.cell (p := ⟨p, 0, none⟩) l2).trans pn, (h.cell (p := ⟨g9, 0, none⟩) l3).trans v0⟩
          have HZ := Lib.hid hz
          have hltj : (j : Int) < Zk.length := by omega
          have HGZ := Lib.hid hgz
          clear hz hpi hs d0 d0' d1 d2 d3 d4 df pn hg9b v0 l1 l2 l3
          subst hgz
          go_upto_region 11 with (fail)
          clear p0
          refine T3.wp_region_tail (C := fun w' => Below wr.heap.size wr w') (X := fun _ w w' => Below w.heap.size w w') (n := 67) 12 (by kernel_rfl) (by kernel_rfl) (by kernel_rfl) (by kernel_rfl) rfl (fun _ w => Below.refl _ w) (Below.refl _ _).drew ?_
          simp only [List.take_succ_cons, List.take_zero, List.drop_succ_cons, List.drop_zero]
          refine T3.w_is (fun _ w => Below.refl _ w) rfl _ (.inl rfl) (fun ρ w hC hc hfn hf => by have e7 : ρ (.tmp 7) = _ := hf 7 (by decide); (conv => lhs; simp [execOp, go_sem, hc, e7])) ?_
          refine T3.w_is (fun _ w => Below.refl _ w) rfl _ (.inl rfl) (fun ρ w hC hc hfn hf => by have e42 : ρ (.tmp 42) = _ := hf 42 (by decide); (conv => lhs; simp [execOp, go_sem, hc, e42, kc w hC])) ?_
          refine T3.w_is (fun _ w => Below.refl _ w) rfl _ (.inl rfl) (fun ρ w hC hc hfn hf => by have e9 : ρ (.tmp 9) = _ := hf 9 (by decide); (conv => lhs; simp [execOp, go_sem, hc, e9])) ?_
          refine T3.w_is (fun _ w => Below.refl _ w) rfl _ (.inl rfl) (fun ρ w hC hc hfn hf => by have e44 : ρ (.tmp 44) = _ := hf 44 (by decide); (conv => lhs; simp [execOp, go_sem, hc, e44])) ?_
          refine T3.w_is (fun _ w => Below.refl _ w) rfl _ (.inl rfl) (fun ρ w hC hc hfn hf => by have e45 : ρ (.tmp 45) = _ := hf 45 (by decide); (conv => lhs; simp [execOp, go_sem, hc, e45])) ?_
          refine T3.w_is (fun _ w => Below.refl _ w) rfl _ (.inl rfl) (fun ρ w hC hc hfn hf => by have e46 : ρ (.tmp 46) = _ := hf 46 (by decide); (conv => lhs; simp [execOp, go_sem, hc, e46])) ?_
          refine T3.w_is (fun _ w => Below.refl _ w) rfl _ (.inl rfl) (fun ρ w hC hc hfn hf => by have e47 : ρ (.tmp 47) = _ := hf 47 (by decide); (conv => lhs; simp [execOp, go_sem, hc, e47, kc w hC])) ?_
          refine T3.w_is (fun _ w => Below.refl _ w) rfl _ (.inl rfl) (fun ρ w hC hc hfn hf => by have e0 : ρ (.tmp 0) = _ := hf 0 (by decide); (conv => lhs; simp [execOp, go_sem, hc, e0])) ?_
          refine T3.w_is (fun _ w => Below.refl _ w) rfl _ (.inl rfl) (fun ρ w hC hc hfn hf => by have e49 : ρ (.tmp 49) = _ := hf 49 (by decide); (conv => lhs; simp [execOp, go_sem, hc, e49])) ?_
          refine T3.w_is (fun _ w => Below.refl _ w) rfl _ (.inl rfl) (fun ρ w hC hc hfn hf => by have e50 : ρ (.tmp 50) = _ := hf 50 (by decide); (conv => lhs; simp [execOp, go_sem, hc, e50])) ?_
          refine T3.w_is (fun _ w => Below.refl _ w) rfl _ (.inl rfl) (fun ρ w hC hc hfn hf => by have e51 : ρ (.tmp 51) = _ := hf 51 (by decide); (conv => lhs; simp [execOp, go_sem, hc, e51, kc w hC])) ?_
          refine T3.w_call rfl (Is _) (fun _ _ _ _ _ h _ => h) 25 (.inl rfl) (fun ρ w hC hc hfn hf => by have e43 : ρ (.tmp 43) = _ := hf 43 (by decide); have e48 : ρ (.tmp 48) = _ := hf 48 (by decide); have e52 : ρ (.tmp 52) = _ := hf 52 (by decide); exact ⟨_, by (conv => lhs; simp [execOp, resolve, invoke, go_sem, hc, hfn, e43, e48, e52]), (within_any N m s.win w).mono fun e w' h => ⟨_, h.1, hC.trans (h.2.mono hC.size), h.2, rfl⟩⟩) ?_
          intro A V7 hC hn hd hf
          have y0 : A.eval (.tmp 0) = _ := Eq.trans (hf 0) (by conv => lhs; simp [go_sem])
          have y1 : A.eval (.tmp 1) = _ := Eq.trans (hf 1) (by conv => lhs; simp [go_sem])
          have y2 : A.eval (.tmp 2) = _ := Eq.trans (hf 2) (by conv => lhs; simp [go_sem])
          have y3 : A.eval (.tmp 3) = _ := Eq.trans (hf 3) (by conv => lhs; simp [go_sem])
          have y4 : A.eval (.tmp 4) = _ := Eq.trans (hf 4) (by conv => lhs; simp [go_sem])
          have y5 : A.eval (.tmp 5) = _ := Eq.trans (hf 5) (by conv => lhs; simp [go_sem])
          have y6 : A.eval (.tmp 6) = _ := Eq.trans (hf 6) (by conv => lhs; simp [go_sem])
          have y7 : A.eval (.tmp 7) = _ := Eq.trans (hf 7) (by conv => lhs; simp [go_sem])
          have y8 : A.eval (.tmp 8) = _ := Eq.trans (hf 8) (by conv => lhs; simp [go_sem])
          have y9 : A.eval (.tmp 9) = _ := Eq.trans (hf 9) (by conv => lhs; simp [go_sem])
          have y10 : A.eval (.tmp 10) = _ := Eq.trans (hf 10) (by conv => lhs; simp [go_sem])
          have y11 : A.eval (.tmp 11) = _ := Eq.trans (hf 11) (by conv => lhs; simp [go_sem])
          have y12 : A.eval (.tmp 12) = _ := Eq.trans (hf 12) (by conv => lhs; simp [go_sem])
          have y13 : A.eval (.tmp 13) = _ := Eq.trans (hf 13) (by conv => lhs; simp [go_sem])
          have y14 : A.eval (.tmp 14) = _ := Eq.trans (hf 14) (by conv => lhs; simp [go_sem])
          have y15 : A.eval (.tmp 15) = _ := Eq.trans (hf 15) (by conv => lhs; simp [go_sem])
          have y16 : A.eval (.tmp 16) = _ := Eq.trans (hf 16) (by conv => lhs; simp [go_sem])
          have y17 : A.eval (.tmp 17) = _ := Eq.trans (hf 17) (by conv => lhs; simp [go_sem])
          have y18 : A.eval (.tmp 18) = _ := Eq.trans (hf 18) (by conv => lhs; simp [go_sem])
          have y19 : A.eval (.tmp 19) = _ := Eq.trans (hf 19) (by conv => lhs; simp [go_sem])
          have y20 : A.eval (.tmp 20) = _ := Eq.trans (hf 20) (by conv => lhs; simp [go_sem])
          have y21 : A.eval (.tmp 21) = _ := Eq.trans (hf 21) (by conv => lhs; simp [go_sem])
          have y22 : A.eval (.tmp 22) = _ := Eq.trans (hf 22) (by conv => lhs; simp [go_sem])
          have y23 : A.eval (.tmp 23) = _ := Eq.trans (hf 23) (by conv => lhs; simp [go_sem])
          have y24 : A.eval (.tmp 24) = _ := Eq.trans (hf 24) (by conv => lhs; simp [go_sem])
          have y25 : A.eval (.tmp 25) = _ := Eq.trans (hf 25) (by conv => lhs; simp [go_sem])
          have y26 : A.eval (.tmp 26) = _ := Eq.trans (hf 26) (by conv => lhs; simp [go_sem])
          have y27 : A.eval (.tmp 27) = _ := Eq.trans (hf 27) (by conv => lhs; simp [go_sem])
          have y28 : A.eval (.tmp 28) = _ := Eq.trans (hf 28) (by conv => lhs; simp [go_sem])
          have y29 : A.eval (.tmp 29) = _ := Eq.trans (hf 29) (by conv => lhs; simp [go_sem])
          have y30 : A.eval (.tmp 30) = _ := Eq.trans (hf 30) (by conv => lhs; simp [go_sem])
          have y31 : A.eval (.tmp 31) = _ := Eq.trans (hf 31) (by conv => lhs; simp [go_sem])
          have y32 : A.eval (.tmp 32) = _ := Eq.trans (hf 32) (by conv => lhs; simp [go_sem])
          have y33 : A.eval (.tmp 33) = _ := Eq.trans (hf 33) (by conv => lhs; simp [go_sem])
          have y34 : A.eval (.tmp 34) = _ := Eq.trans (hf 34) (by conv => lhs; simp [go_sem])
          have y35 : A.eval (.tmp 35) = _ := Eq.trans (hf 35) (by conv => lhs; simp [go_sem])
          have y36 : A.eval (.tmp 36) = _ := Eq.trans (hf 36) (by conv => lhs; simp [go_sem])
          have y37 : A.eval (.tmp 37) = _ := Eq.trans (hf 37) (by conv => lhs; simp [go_sem])
          have y38 : A.eval (.tmp 38) = _ := Eq.trans (hf 38) (by conv => lhs; simp [go_sem])
          have y39 : A.eval (.tmp 39) = _ := Eq.trans (hf 39) (by conv => lhs; simp [go_sem])
          have y40 : A.eval (.tmp 40) = _ := Eq.trans (hf 40) (by conv => lhs; simp [go_sem])
          have y41 : A.eval (.tmp 41) = _ := Eq.trans (hf 41) (by conv => lhs; simp [go_sem])
          have y42 : A.eval (.tmp 42) = _ := hf 42
          have y43 : A.eval (.tmp 43) = _ := hf 43
          have y44 : A.eval (.tmp 44) = _ := hf 44
          have y45 : A.eval (.tmp 45) = _ := hf 45
          have y46 : A.eval (.tmp 46) = _ := hf 46
          have y47 : A.eval (.tmp 47) = _ := hf 47
          have y48 : A.eval (.tmp 48) = _ := hf 48
          have y49 : A.eval (.tmp 49) = _ := hf 49
          have y50 : A.eval (.tmp 50) = _ := hf 50
          have y51 : A.eval (.tmp 51) = _ := hf 51
          have y52 : A.eval (.tmp 52) = _ := hf 52
          have y53 : A.eval (.tmp 53) = _ := hf 53
          have y54 : A.eval (.tmp 54) = _ := Eq.trans (hf 54) (by conv => lhs; simp [go_sem])
          have y55 : A.eval (.tmp 55) = _ := Eq.trans (hf 55) (by conv => lhs; simp [go_sem])
          have y56 : A.eval (.tmp 56) = _ := Eq.trans (hf 56) (by conv => lhs; simp [go_sem])
          have y57 : A.eval (.tmp 57) = _ := Eq.trans (hf 57) (by conv => lhs; simp [go_sem])
          have y58 : A.eval (.tmp 58) = _ := Eq.trans (hf 58) (by conv => lhs; simp [go_sem])
          have y59 : A.eval (.tmp 59) = _ := Eq.trans (hf 59) (by conv => lhs; simp [go_sem])
          have y60 : A.eval (.tmp 60) = _ := Eq.trans (hf 60) (by conv => lhs; simp [go_sem])
          have y61 : A.eval (.tmp 61) = _ := Eq.trans (hf 61) (by conv => lhs; simp [go_sem])
          have y62 : A.eval (.tmp 62) = _ := Eq.trans (hf 62) (by conv => lhs; simp [go_sem])
          have y63 : A.eval (.tmp 63) = _ := Eq.trans (hf 63) (by conv => lhs; simp [go_sem])
          have y64 : A.eval (.tmp 64) = _ := Eq.trans (hf 64) (by conv => lhs; simp [go_sem])
          have y65 : A.eval (.tmp 65) = _ := Eq.trans (hf 65) (by conv => lhs; simp [go_sem])
          have y66 : A.eval (.tmp 66) = _ := Eq.trans (hf 66) (by conv => lhs; simp [go_sem])
          clear hf
          have hA := frame_eq hn
          rw [show List.range 67 = [0, 1, 2, 3, 4, 5, 6, 7, 8, 9, 10, 11, 12, 13, 14, 15, 16, 17, 18, 19, 20, 21, 22, 23, 24, 25, 26, 27, 28, 29, 30, 31, 32, 33, 34, 35, 36, 37, 38, 39, 40, 41, 42, 43, 44, 45, 46, 47, 48, 49, 50, 51, 52, 53, 54, 55, 56, 57, 58, 59, 60, 61, 62, 63, 64, 65, 66] from rfl, hd] at hA
          simp only [List.map_cons, List.map_nil, y0, y1, y2, y3, y4, y5, y6, y7, y8, y9, y10, y11, y12, y13, y14, y15, y16, y17, y18, y19, y20, y21, y22, y23, y24, y25, y26, y27, y28, y29, y30, y31, y32, y33, y34, y35, y36, y37, y38, y39, y40, y41, y42, y43, y44, y45, y46, y47, y48, y49, y50, y51, y52, y53, y54, y55, y56, y57, y58, y59, y60, y61, y62, y63, y64, y65, y66] at hA
          clear y0 y1 y2 y3 y4 y5 y6 y7 y8 y9 y10 y11 y12 y13 y14 y15 y16 y17 y18 y19 y20 y21 y22 y23 y24 y25 y26 y27 y28 y29 y30 y31 y32 y33 y34 y35 y36 y37 y38 y39 y40 y41 y42 y43 y44 y45 y46 y47 y48 y49 y50 y51 y52 y53 y54 y55 y56 y57 y58 y59 y60 y61 y62 y63 y64 y65 y66
          clear hn hd
          subst hA
          have HB7 := Lib.hid (HB.out.trans (hC.mono HB.out.size))
          clear kc hC
          cases hw : withB N m s.win with
          | false =>
            have hke : k = (sdT s).length := by
              rcases Nat.lt_or_ge k (sdT s).length with h9 | h9
              · have hx9 := HX.out
                obtain ⟨R, hR, _⟩ := sdT_split s
                have hpe : P = sdT s ++ R := HPK.out.symm.trans hR
                rw [hpe, getD_app h9] at hx9
                have hm9 : ((m, zs), t) ∈ (stk s k).L := by
                  rw [HPV.out.zl]
                  exact List.mem_map.2 ⟨_, List.mem_of_getElem? HZ.out, rfl⟩
                have h8 := near_all HOK.out h9 _ hm9
                rw [hx9] at h8
                have h8' : withB N m s.win = true := h8
                rw [hw] at h8'
                cases h8'
              · omega
            have HFS : Hid (stk s k = sdS s) := by rw [hke]; exact stk_end s
            have hpx := HPV.out.below HB7.out
            rw [HFS.out] at hpx
            obtain ⟨A0, hA, hcall⟩ := sfin_any hpx HOK.out (n := Z.length) HPZ.out.llen.symm
            obtain ⟨d0, d1, d2, d3, d4, df⟩ := hpx.cells
            have hle : Z.length ≤ Zk.length := by have := HZK.out; omega
            have HCALL := Lib.hid hcall
            have HPX := Lib.hid hpx
            have HCX : Hid (Chg F w0 V7) := HCV.out.trans (G := fun _ => False) (chg0 HB7.out) (fun _ _ e => e.elim)
            have HVS : Hid (V.heap.size ≤ V7.heap.size) := HB7.out.size
            have hcap : Zk.length ≤ cK := by
              have h9 := hpx.ot
              rcases h9.2 with ⟨h1, _⟩ | ⟨g', cap', cur, hv, hb, hg, hnc, hcm, hcs, htake⟩
              · cases h1
              · simp only [Value.slice.injEq] at hv
                rw [List.length_map] at hnc
                omega
            clear HN HB HB7 HZ HRV HUV HVG HVV HR HP hpx hke d0 d1 d2 d3 df hcall
            go_wp2_with fail
            refine HCALL.out.mono ?_
            rintro e w9 ⟨r, rfl, hr, hb9⟩
            obtain ⟨a9, c9, rfl⟩ := hr.form'
            have HRR := Lib.hid hr
            have HB9 := Lib.hid hb9
            clear hr hb9 d4
            go_wp2_with fail
            try rw [Exit.noGoto_ret]
            try show bodyPost _ _ _ _ _ _
            go_ret
            refine ⟨_, V7.heap.size, rfl, HCX.out.trans (G := fun _ => False) (chg0 HB9.out) (fun _ _ e => e.elim), HCX.out.size, HRR.out, _, _, _, _, HPX.out.below HB9.out, FN.new, fun k hk => Nat.lt_of_lt_of_le (FN.lt HPZ.out.lt HCV.out.size k hk) HVS.out⟩
          | true =>
            have HW := Lib.hid hw
            go_wp2_with fail
            go_roundw
            case rel => exact ⟨j + 1, by omega, by go_num, HB7.out, fun i y hi hy => by
              by_cases h9 : i = j
              · subst h9
                have e := hy.symm.trans HZ.out
                cases e
                exact HW.out
              · exact HN.out i y (by omega) hy⟩
            case measure => simp [intOf]; omega
        · obtain rfl : j = Zk.length := by omega
          have hks : k < (sdT s).length := by
            rcases Nat.lt_or_ge k (sdT s).length with h9 | h9
            · exact h9
            · exfalso
              have hke : k = (sdT s).length := by omega
              obtain ⟨R, hR, _⟩ := sdT_split s
              have hpe : P = sdT s ++ R := HPK.out.symm.trans hR
              cases R with
              | nil => rw [hpe, List.append_nil] at hlt; omega
              | cons p R =>
                have hx9 := HX.out
                rw [hpe, hke] at hx9
                have hx8 : (sdT s ++ p :: R).getD (sdT s).length zb = p := by simp [List.getD]
                rw [hx8] at hx9
                obtain ⟨e, he, hw⟩ := far_stop HOK.out hR
                rw [← stk_end s, ← hke, HPV.out.zl, List.getElem?_map] at he
                cases hz0 : Zk[0]? with
                | none => rw [hz0] at he; cases he
                | some z0 =>
                  rw [hz0] at he
                  have he' : z0.2 = e := by cases he; rfl
                  have h8 := HN.out 0 z0 (List.getElem?_eq_some_iff.1 hz0).1 hz0
                  rw [he', ] at h8
                  rw [hx9] at hw
                  have hw' : withB N e.1.1 s.win = false := hw
                  rw [h8] at hw'
                  cases hw'
          obtain ⟨R, hR, _⟩ := sdT_split s
          have hx9 := HX.out
          rw [HPK.out.symm.trans hR, getD_app hks] at hx9
          obtain ⟨hbt, hyl⟩ := stk_len HOK.out hks
          have hsucc := stk_succ HOK.out hks
          rw [hx9] at hbt hyl hsucc
          have hpi := (HPV.out.below HB.out).mono (F' := FN F w0 wr) (fun y hy => hy.imp (fun e => e) (fun e => ⟨e.1, Nat.lt_of_lt_of_le e.2 HB.out.size⟩)) (FN.lt HPZ.out.lt (Nat.le_trans HCV.out.size HB.out.size))
          have hu := HUV.out.below HB.out
          have hvk : ∀ g, vWk.ownBlock = some g → g < w0.heap.size := fun g hg => HPZ.out.lt g (HPZ.out.wf g (HV.out g hg))
          have ho : ObI wr (FN F w0 wr) vWk (.slice au ys.length cu) ys := ⟨hu.os, rfl, fun a n c e hn => by
            have hob : (Value.slice au ys.length cu).ownBlock = some a.block := by rw [e]; rfl
            obtain ⟨l1, l2⟩ := World.ownsRow.lt hu a.block hob
            exact ⟨.inr ⟨l1, l2⟩, own_blk hu hob, fun e2 => by have := hvk a.block e2; omega⟩⟩
          have CLO := Lib.hid (letout_any N ys (.slice au ys.length cu) hpi ho (show 0 < ys.length from hbt.2.1.1) hyl (by omega))
          have hg9b : V.heap[g9]? = some (.cells #[.int .i64 N, .slice au ys.length cu] 55) := HVG.out
          have v0 : wr.cell? ⟨g9, 0, none⟩ = some (.int .i64 N) := by
            rw [HB.out.cell (p := ⟨g9, 0, none⟩) (some_lt hg9b)]
            simp [World.cell?, hg9b]
          have v1 : wr.cell? ⟨g9, 1, none⟩ = some (.slice au ys.length cu) := by
            rw [HB.out.cell (p := ⟨g9, 1, none⟩) (some_lt hg9b)]
            simp [World.cell?, hg9b]
          have hkm1 : k + 1 ≤ (sdT s).length := hks
          have HSU := Lib.hid hsucc
          have HPI := Lib.hid hpi
          have HVK := Lib.hid hvk
          have HCR : Hid (Chg F w0 wr) := HCV.out.trans (G := fun _ => False) (chg0 HB.out) (fun _ _ e => e.elim)
          have HRR := Lib.hid (HRV.out.below HB.out)
          clear hks hR hx9 hbt hyl hsucc hpi hu hvk ho hg9b HN HVV HVG HUV HRV HPV HCV
          go_wp2_with fail
          refine CLO.out.mono ?_
          rintro e w9 ⟨rfl, hc9, Z9, vW9, vO9, hp9, ⟨p9, rfl⟩, hv9⟩
          obtain ⟨a9, c9, rfl⟩ := hp9.oform
          have hl9 : (Zk ++ [(p9, (N, ys), 1)]).length = Zk.length + 1 := by rw [List.length_append]; rfl
          have hob : ∀ g, (Value.slice aK Zk.length cK).ownBlock = some g → BlkT wr g 67 := fun g hg => own_blk HPI.out.ot hg
          have hr9 := HRR.out.chg hc9 (fun y hy ht hL => by
            rcases hL with rfl | hL | hL
            · have := HPZ.out.lt y HPZ.out.fb; omega
            · have := HVK.out y hL; omega
            · exact ht.elim (fun h => h.ne (hob y hL) (by decide) rfl) (fun h => h.ne (hob y hL) (by decide) rfl))
          have hcc : Chg F w0 w9 := HCR.out.trans hc9 (fun y hy hL => by
            rcases hL with rfl | hL | hL
            · exact HPZ.out.fb
            · exact HPZ.out.wf y (HV.out y hL)
            · exact (HPI.out.of y hL).elim (fun h => h) (fun h => by omega))
          have hp9' : PZ w9 (FN F w0 w9) b (stk s (k + 1)) (Zk ++ [(p9, (N, ys), 1)]) vW9 (.slice a9 (Zk ++ [(p9, (N, ys), 1)]).length c9) := by
            rw [← HSU.out]
            exact hp9.mono (fun y hy => (FN.up HCR.out.size hc9.size y).1 hy) (FN.lt HPZ.out.lt hcc.size)
          have HR9 := Lib.hid hr9
          have HC9 := Lib.hid hcc
          have HP9 := Lib.hid hp9'
          have HV9 : Hid (∀ g, vW9.ownBlock = some g → vW.ownBlock = some g) := fun g hg => HV.out g (hv9 g hg)
          have HZ9 : Hid ((Zk ++ [(p9, (N, ys), (1 : Int))]).length = Z.length + (k + 1)) := by show _ = _; rw [hl9, HZK.out]; omega
          have hz9 : (Zk ++ [(p9, (N, ys), (1 : Int))]).length ≤ 100 := by rw [HZ9.out]; omega
          clear hc9 hp9 hob hr9 hcc hp9' hv9 v0 v1
          go_wp2_with fail
          go_roundw
          case rel => exact ⟨k + 1, _, vW9, a9, c9, hkm1, by omega, by go_num, HZ9.out, hz9, HP9.out, HV9.out, HR9.out, HC9.out⟩
          case measure => simp [intOf]; omega
    · have hke : k = (sdT s).length := by
        obtain ⟨R, hR, _⟩ := sdT_split s
        have h9 : P.length = (sdT s).length + R.length := by rw [← HPK.out, hR, List.length_append]
        omega
      have HFS : Hid (stk s k = sdS s) := by rw [hke]; exact stk_end s
      have hpx := HP.out
      rw [HFS.out] at hpx
      have hfin : Hid (∀ r S w9, Chg F w0 wr → RowB w9 wr.heap.size r (sdT s) → Below wr.heap.size wr w9 → S = wr.heap.size → Chg F w0 w9 ∧ w0.heap.size ≤ S ∧ RowB w9 S r (sdT s) ∧ ∃ F' Z' vW' vO', PZ w9 F' b (sdS s) Z' vW' vO' ∧ (∀ k, F' k → F k ∨ w0.heap.size ≤ k) ∧ ∀ k, F' k → k < S) := fun r S w9 hc hr hb e => by
        subst e
        exact ⟨hc.trans (G := fun _ => False) (chg0 hb) (fun _ _ e => e.elim), hc.size, hr, _, _, _, _, hpx.below hb, FN.new, FN.lt HPZ.out.lt hc.size⟩
      obtain ⟨d0, d1, d2, d3, d4, df⟩ := hpx.cells
      have hle : Z.length ≤ Zk.length := by have := HZK.out; omega
      have hdec : decide ((k : Int) < (P.length : Int)) = false := decide_eq_false (by omega)
      clear hke d0 d1 d2 d3 df HR
      cases aK with
      | none =>
        have hn0 : Zk.length = 0 ∧ cK = 0 := by
          rcases hpx.ot.2 with ⟨h1, h2⟩ | ⟨g', cap', cur, hv, _⟩
          · rw [List.length_map] at h2
            simp only [Value.slice.injEq] at h1
            exact ⟨h2, h1.2.2⟩
          · cases hv
        have hz0 : Z.length = 0 := by omega
        have hs0 : sdT s = [] := by
          have h1 := HZK.out
          have h2 := hpx.llen
          have h3 : (sdS s).L.length = s.L.length + (sdT s).length := by
            show (s.L ++ (sdT s).map fun p => (p, (1 : Int))).length = _
            rw [List.length_append, List.length_map]
          exact List.eq_nil_of_length_eq_zero (by omega)
        obtain ⟨h1, h2⟩ := hn0
        have CB := Lib.hid (bof_any none 0 [] [] wr (Gs_nil (R := RPT) wr) rfl (fun i hi => absurd hi (Nat.not_lt_zero i)) (Nat.zero_le _) (fun i hi => absurd hi (Nat.not_lt_zero i)))
        have HS0 := Lib.hid hs0
        rw [h1] at d4
        subst h2
        rw [hz0]
        clear hpx hz0 hs0 h1 hle
        go_wp2_with fail
        refine CB.out.mono ?_
        rintro e w9 ⟨r, rfl, hr, hb9⟩
        have hr2 : RowB w9 wr.heap.size r (sdT s) := by rw [HS0.out]; exact hr
        obtain ⟨a9, c9, rfl⟩ := hr.form'
        have HRR := Lib.hid hr2
        have HB9 := Lib.hid hb9
        clear hr hb9 d4 hr2
        go_wp2_with fail
        try rw [Exit.noGoto_ret]
        try show bodyPost _ _ _ _ _ _
        go_ret
        exact ⟨_, wr.heap.size, rfl, hfin.out _ _ _ HC.out HRR.out HB9.out rfl⟩
      | some ad =>
        obtain ⟨rw9, h9⟩ : ∃ r9, wr.ownsRow 0 67 1 (.slice (some ad) Zk.length cK) Zk.length r9 := by
          have h9 := hpx.ot
          unfold OwP at h9
          rw [List.length_map] at h9
          exact ⟨_, h9⟩
        obtain ⟨gz, rfl⟩ := own_zero h9
        obtain ⟨A0, hA, hcall⟩ := sfin_any hpx HOK.out (n := Z.length) HPZ.out.llen.symm
        have HCALL := Lib.hid hcall
        have hcap : Zk.length ≤ cK := by
          rcases h9.2 with ⟨h1, _⟩ | ⟨g', cap', cur, hv, hb, hg, hnc, hcm, hcs, htake⟩
          · cases h1
          · simp only [Value.slice.injEq] at hv
            omega
        clear h9 hpx hcall
        go_wp2_with fail
        refine HCALL.out.mono ?_
        rintro e w9 ⟨r, rfl, hr, hb9⟩
        obtain ⟨a9, c9, rfl⟩ := hr.form'
        have HRR := Lib.hid hr
        have HB9 := Lib.hid hb9
        clear hr hb9 d4
        go_wp2_with fail
        try rw [Exit.noGoto_ret]
        try show bodyPost _ _ _ _ _ _
        go_ret
        exact ⟨_, wr.heap.size, rfl, hfin.out _ _ _ HC.out HRR.out HB9.out rfl⟩
end Go.Proofs.Yticjeknadddhoaa

namespace Go.Proofs.Yticjeknadddhoaa
set_option maxRecDepth 100000
set_option linter.unusedVariables false
open Go.RowKit

theorem own_oso {w : World} {S : Nat} {G : Nat → Prop} {u : Value} {ys : List Ob} (h : OwO w S u ys) (hG : ∀ k, G k → k < S) : OsO w G u ys := ⟨h.os, fun a n c e _ => by
  have hb : u.ownBlock = some a.block := by rw [e]; rfl
  refine ⟨fun hg => ?_, own_blk h hb⟩
  have h1 := (World.ownsRow.lt h a.block hb).1
  have h2 := hG _ hg
  omega⟩
theorem rowb_btso {w : World} {S : Nat} {G : Nat → Prop} {r : Value} {bs : List Bt} (h : RowB w S r bs) (hG : ∀ k, G k → k < S) : BtsO w G r bs := by
  obtain ⟨vs, k1, k2, k3⟩ := h
  rcases k2.2 with ⟨h4, h5⟩ | ⟨g, cap, cur, h4, hb, hg, hnc, _, hcs, htake⟩
  · exact .inl ⟨none, 0, by rw [h4], fun _ => rfl, List.eq_nil_of_length_eq_zero h5⟩
  · refine .inr ⟨g, 0, cap, h4, hnc, some_lt hg, fun hf => by have := hG _ hf; omega, fun i hi => ?_⟩
    have hc : ∀ j, j < 2 → w.cell? ⟨g, 0 + i * 2 + j, none⟩ = (c2 (vs.getD i zv))[j]? := fun j hj => by
      rw [cell_of_row w g _ cur 55 (0, 0) hg, Nat.zero_add, ← flat2_at vs i j (by omega) hj, ← htake, List.getElem?_take, if_pos (by omega)]
      simp
    have e0 := hc 0 (by decide)
    have e1 := hc 1 (by decide)
    obtain ⟨q1, q2⟩ := k3 i hi
    refine ⟨by rw [← q1]; exact e0, (vs.getD i zv).2, e1, ?_, own_oso q2 hG⟩
    obtain ⟨a, c, e⟩ := own_form q2
    rw [e]
    rfl
theorem dc : Dc PS where
  lt := fun {w F b s} h k hk => by
    obtain ⟨_, Z, vW, vO, h⟩ := h
    exact h.lt k hk
  ok := fun {w F b s} h => h.1
  keep := fun {w w' F G b s} h hc hG => by
    obtain ⟨h0, Z, vW, vO, h⟩ := h
    exact ⟨h0, Z, vW, vO, h.keep hc hG⟩
  new := pnew_any
  push := fun {w F b s} y h => by
    obtain ⟨h0, Z, vW, vO, h⟩ := h
    refine (ppush_any y h h0.wl).mono ?_
    rintro e w' ⟨h1, h2, F', vW', h3, h4⟩
    exact ⟨h1, h2, F', ⟨sdok_push h0 y, Z, vW', vO, h3⟩, h4⟩
  send := fun {w F b s} h => by
    obtain ⟨h0, Z, vW, vO, h⟩ := h
    refine (psend_any h h0).mono ?_
    rintro e w' ⟨r, S, h1, h2, h3, h4, F', Z', vW', vO', h5, h6, h7⟩
    exact ⟨r, h1, h2, F', ⟨sdok_send h0, Z', vW', vO', h5⟩, h6, rowb_btso h4 (fun k hk => hk.elim (h7 k) (fun h => by omega))⟩
  again := fun {w F b s} h => by
    obtain ⟨h0, Z, vW, vO, h⟩ := h
    refine (pagain_any h h0).mono ?_
    rintro e w' ⟨r, h1, h2, ⟨Z', h3⟩, h4⟩
    exact ⟨r, h1, h2, F, ⟨sdok_again h0, Z', vW, vO, h3⟩, fun k hk => .inl hk, rowb_btso h4 (fun k hk => h.lt k hk)⟩
  got := fun {w F b s} a h => by
    obtain ⟨h0, Z, vW, vO, h⟩ := h
    refine (pgot_any a.1 a.2.1 a.2.2.1 a.2.2.2 h h0).mono ?_
    rintro e w' ⟨h1, h2, F', Z', vO', h3, h4⟩
    exact ⟨h1, h2, F', ⟨sdok_got h0 a, Z', vW, vO', h3⟩, h4⟩
  wait := fun {w F b s} h => by
    obtain ⟨h0, Z, vW, vO, h⟩ := h
    refine (pwait_any h (Nat.le_trans h0.wl (by decide))).mono ?_
    rintro e w' ⟨⟨a, c, h1, h2⟩, h3⟩
    exact ⟨_, h1, chg0 h3, F, ⟨h0, Z, vW, vO, h.below h3⟩, fun k hk => .inl hk, own_oso h2 (fun k hk => hk.elim (h.lt k) (fun h => h))⟩
  out := fun {w F b s} h => by
    obtain ⟨h0, Z, vW, vO, h⟩ := h
    refine (pout_any h h0).mono ?_
    rintro e w' ⟨⟨a, c, h1, h2⟩, h3⟩
    exact ⟨_, h1, chg0 h3, F, ⟨h0, Z, vW, vO, h.below h3⟩, fun k hk => .inl hk, rowb_btso h2 (h.lt)⟩
  pushN := push_nil
  sendN := send_nil
  againN := again_nil
  gotN := got_nil
  waitN := wait_nil
  outN := out_nil
#print axioms dc
end Go.Proofs.Yticjeknadddhoaa
