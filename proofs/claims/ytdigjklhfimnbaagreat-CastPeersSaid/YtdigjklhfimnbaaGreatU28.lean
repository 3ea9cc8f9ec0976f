/- Texts Pq4 of this proof, in one. No conditions but on lengths. -/
import Derived.Test.YtdigjklhfimnbaaGreatU51
import Derived.Test.YtdigjklhfimnbaaGreatRows
import Derived.Test.YtdigjklhfimnbaaGreatU19
import Derived.Test.YtdigjklhfimnbaaGreatU21
import Derived.Test.YtdigjklhfimnbaaGreatU22
import Derived.ArgAppend
import Derived.Below
import Derived.BigQuiet
import Derived.Calls
import Derived.ChangeArms
import Derived.ChangeMade
import Derived.ChangeOld
import Derived.Deep.Cut
import Derived.Deep.CutBlock
import Derived.Deep.QuietTactic
import Derived.Deep.RegionHeld
import Derived.Deep.RegionLaw
import Derived.Deep.RegionWith
import Derived.Deep.Slices
import Derived.Laws.AppendOwnNone
import Derived.Laws.BytesArg
import Derived.Laws.LoneSync
import Derived.Laws.OwnMore
import Derived.Laws.StructEq
import Derived.Lib.Hide
import Derived.Lib.QuietBelow
import Derived.LoopIn
import Derived.LoopTactic
import Derived.Maps.AppendAt
import Derived.OpenShut
import Derived.Orders
import Derived.Outline
import Derived.OwnWalkIn
import Derived.ProofKit
import Derived.RangeFuncBox
import Derived.RangeFuncCalls
import Derived.RangeFuncLeaves
import Derived.RangeFuncNested
import Derived.Shelf.RegionOpen
import Derived.Shelf.RegionOpenPlain
import Derived.ShutString
import Derived.StillTail
import Derived.TacticsInMore
import Derived.WalkKit
import Derived.WalkLawsBesides
import Derived.WalkSpells
import Derived.WideShapes
namespace Go.Proofs.YtdigjklhfimnbaaGreat
set_option maxRecDepth 100000
set_option linter.unusedVariables false
open Go.RowKit

theorem OwO.mono0 {w : World} {S S' : Nat} {v : Value} {l : List Ob} (h : OwO w S v l) (hS : S' ≤ S) : OwO w S' v l := gown_mono h hS
theorem oclone_any (v : Value) (ys : List Ob) (w : World) (h : Os w v ys) (hl : ys.length ≤ 3000) : Calls Tryz.prog 96 #[v] w fun e w' => (∃ a c, e = .returned (.slice a ys.length c) ∧ OwO w' w.heap.size (.slice a ys.length c) ys) ∧ Below w.heap.size w w' := by
  obtain ⟨a, c, rfl⟩ := h.form
  cases a with
  | none =>
    obtain ⟨rfl, rfl⟩ : ys = [] ∧ c = 0 := by
      rcases h with ⟨a, cap, hv, hc, rfl⟩ | ⟨b, off, cap, hv, _⟩
      · cases hv; exact ⟨rfl, hc rfl⟩
      · cases hv
    have q22 : ∀ w, (binOp .eql 31 (.slice none 0 0) (.slice none 0 0)).run Tryz.prog w = .ok (.bool true) w := fun w => Lib.run_eql_slice_nil w 31 41 none 0 0 0 0 underSL
    clear h
    show Calls Tryz.prog 96 #[.slice none 0 0] w _
    go_enter Tryz.func96, Tryz.ntmps96
    go_wp2_with fail
    go_ret
    exact ⟨⟨none, 0, rfl, OwO_nil w _⟩, Below.refl _ _⟩
  | some ad =>
    have q22 : ∀ w, (binOp .eql 31 (.slice (some ad) ys.length c) (.slice none 0 0)).run Tryz.prog w = .ok (.bool false) w := fun w => Lib.run_eql_slice_nil w 31 41 (some ad) ys.length c 0 0 underSL
    obtain ⟨V, hV⟩ : ∃ V, w.alloc (.cells #[] 41) = V := ⟨_, rfl⟩
    have hb : Below w.heap.size w V := hV ▸ (Below.refl _ w).alloc (Nat.le_refl _) _
    have ho : OwO V w.heap.size (.slice (some ⟨w.heap.size, 0, none⟩) 0 0) [] := hV ▸ World.ownsRow_made (e := 41) (size := 12) w #[] 0 (Nat.le_refl _) (by decide) rfl
    obtain ⟨r, w2, hr, ho2, hg, _⟩ := run_gappo V 31 w.heap.size _ [] ho _ ys (h.below hb) (by simp; omega) hb.size
    rw [List.nil_append] at ho2
    have hb2 : Below w.heap.size w w2 := hb.grown hg hb.size (fun k hk => (World.ownsRow.lt ho k hk).1)
    obtain ⟨a2, c2, rfl⟩ := own_form ho2
    have HO := Lib.hid ho2
    have HB := Lib.hid hb2
    rw [← hV] at hr
    clear h hb ho hg ho2 hb2 hV
    go_enter Tryz.func96, Tryz.ntmps96
    go_wp2_with (at_builtin; refine app_go rfl (.tmp 5) (.tmp 6) 31 rfl _ _ _ _ rfl rfl hr ?_)
    go_ret
    exact ⟨⟨a2, c2, rfl, HO.out⟩, HB.out⟩
def NewCl (V : World) (l : List Ob) : Ty := fun v w => ∃ a c, v = .slice a l.length c ∧ OwO w V.heap.size (.slice a l.length c) l
theorem NewCl.keeps (V : World) (l : List Ob) (k : Nat) : T3.Keeps (fun _ w w' => Below w.heap.size w w') k (NewCl V l) := fun _ _ _ _ _ ⟨a, c, h1, h2⟩ hb => ⟨a, c, h1, h2.below hb⟩
def NewBd (V : World) (n : Int) (l : List Ob) : Ty := fun v w => ∃ a c, v = .agg #[.int .i64 n, .slice a l.length c] ∧ OwO w V.heap.size (.slice a l.length c) l
theorem NewBd.keeps (V : World) (n : Int) (l : List Ob) (k : Nat) : T3.Keeps (fun _ w w' => Below w.heap.size w w') k (NewBd V n l) := fun _ _ _ _ _ ⟨a, c, h1, h2⟩ hb => ⟨a, c, h1, h2.below hb⟩
def NewBr (V : World) (n : Int) (l : List Ob) : Ty := fun v w => ∃ b a c, v = .slice (some ⟨b, 0, none⟩) 1 1 ∧ V.heap.size ≤ b ∧ w.cell? ⟨b, 0, none⟩ = some (.int .i64 n) ∧ w.cell? ⟨b, 1, none⟩ = some (.slice a l.length c) ∧ OwO w V.heap.size (.slice a l.length c) l
theorem NewBr.keeps (V : World) (n : Int) (l : List Ob) (k : Nat) : T3.Keeps (fun _ w w' => Below w.heap.size w w') k (NewBr V n l) := fun _ _ _ _ _ ⟨b, a, c, h1, h2, h3, h4, h5⟩ hb =>
  have hl := World.block_lt_of_cell? _ _ h3
  ⟨b, a, c, h1, h2, (hb.cell (p := ⟨b, 0, none⟩) hl).trans h3, (hb.cell (p := ⟨b, 1, none⟩) hl).trans h4, h5.below hb⟩
/-- One batch more, read where it lies. -/
theorem run_bapp2 (w : World) (ty : TypeId) (S : Nat) (v : Value) (bs : List Bt) (hrow : RowB w S v bs) (b : Nat) (N : Int) (a : Option Addr) (c : Nat) (ys : List Ob) (h0 : w.cell? ⟨b, 0, none⟩ = some (.int .i64 N)) (h1 : w.cell? ⟨b, 1, none⟩ = some (.slice a ys.length c)) (ho : OwO w S (.slice a ys.length c) ys) (h63 : bs.length ≤ 3000) (hS : S ≤ w.heap.size) :
    ∃ r w', (Builtin.append_ #[103, 103] ty #[v, .slice (some ⟨b, 0, none⟩) 1 1]).run Tryz.prog w = .ok r w' ∧ RowB w' S r (bs ++ [(N, ys)]) ∧ Below S w w' := by
  obtain ⟨i0, hi, hz0, hz1, hz2⟩ := info_parts infoBT
  obtain ⟨vs, k1, k2, k3⟩ := hrow
  obtain ⟨r, w', hr, h2, h3, _, _⟩ := run_append_own_at (P := Tryz.prog) w S 103 ty 143 i0 _ 2 32 underBS hi hz0 hz1 hz2 rfl (by decide) v bs.length (flat2 vs) k2 ⟨b, 0, none⟩ 1 1 [.int .i64 N, .slice a ys.length c] rfl (by
    intro j u hj
    rw [add_spot]
    have hj2 : j < 2 := (List.getElem?_eq_some_iff.1 hj).1
    have : j = 0 ∨ j = 1 := by omega
    rcases this with rfl | rfl
    · simp at hj; subst hj; exact h0
    · simp at hj; subst hj; exact h1) (by
    intro u hu
    simp at hu
    rcases hu with rfl | rfl <;> rfl) (by unfold maxLen; omega) (by omega) hS
  refine ⟨r, w', hr, ⟨vs ++ [(N, Value.slice a ys.length c)], by simp [k1], ?_, fun i hi2 => ?_⟩, (Below.refl _ w).grown h3 hS (fun k hk => (k2.lt k hk).1)⟩
  · have e : flat2 (vs ++ [(N, Value.slice a ys.length c)]) = flat2 vs ++ [.int .i64 N, .slice a ys.length c] := by rw [flat2_app]; rfl
    rw [e, show (bs ++ [(N, ys)]).length = bs.length + 1 by simp]
    exact h2
  · have hlen : i < bs.length + 1 := by simpa using hi2
    by_cases h9 : i < bs.length
    · have e1 : (vs ++ [(N, Value.slice a ys.length c)]).getD i zv = vs.getD i zv := by simp [List.getD, List.getElem?_append, k1, h9]
      have e2 : (bs ++ [(N, ys)]).getD i zb = bs.getD i zb := by simp [List.getD, List.getElem?_append, h9]
      rw [e1, e2]
      exact ⟨(k3 i h9).1, (k3 i h9).2.kept h3 (apart2 (k3 i h9).2 k2)⟩
    · have e : i = bs.length := by omega
      subst e
      have e1 : (vs ++ [(N, Value.slice a ys.length c)]).getD bs.length zv = (N, Value.slice a ys.length c) := by rw [← k1]; simp [List.getD]
      have e2 : (bs ++ [(N, ys)]).getD bs.length zb = (N, ys) := by simp [List.getD]
      rw [e1, e2]
      exact ⟨rfl, World.ownsRow.kept ho h3 (apart2 ho k2)⟩
/-- What lies at a pointer reads as a batch. -/
def RdP (w : World) (p : Nat) (x : Bt) : Prop := w.cell? ⟨p, 0, none⟩ = some (.int .i64 x.1) ∧ ∃ u, w.cell? ⟨p, 1, none⟩ = some u ∧ Os w u x.2
theorem RdP.lt {w : World} {p : Nat} {x : Bt} (h : RdP w p x) : p < w.heap.size := World.block_lt_of_cell? w _ h.1
theorem RdP.below {w w' : World} {p : Nat} {x : Bt} (h : RdP w p x) (hb : Below w.heap.size w w') : RdP w' p x := by
  have hp := h.lt
  obtain ⟨h1, u, h2, h3⟩ := h
  exact ⟨(hb.cell (p := ⟨p, 0, none⟩) hp).trans h1, u, (hb.cell (p := ⟨p, 1, none⟩) hp).trans h2, h3.below hb⟩
theorem SndAt.rd {w : World} {F : Nat → Prop} {vW : Value} {p : Nat} {e : Bt × Int} (h : SndAt w F vW p e) : RdP w p e.1 := by
  obtain ⟨u, h1, h2⟩ := h.cell
  exact ⟨by simp [World.cell?, h1], u, by simp [World.cell?, h1], h2.os⟩
theorem RowB.form' {w : World} {S : Nat} {v : Value} {bs : List Bt} (h : RowB w S v bs) : ∃ a c, v = .slice a bs.length c := by
  obtain ⟨vs, h1, h2, h3⟩ := h
  exact gown_form h2
theorem pt_at {w : World} {a : Option Addr} {c : Nat} {ps : List Nat} (h : Gs RPT w (.slice a ps.length c) ps) {i : Nat} (hi : i < ps.length) : ∃ b off, a = some ⟨b, off, none⟩ ∧ b < w.heap.size ∧ w.cell? ⟨b, off + i, none⟩ = some (ptr (ps.getD i 0)) := by
  obtain ⟨b, off, h1, h2, h3⟩ := Gs.at (R := RPT) h hi
  have := h3 0 (by decide)
  rw [show off + i * RPT.K + 0 = off + i from congrArg (off + ·) (Nat.mul_one i)] at this
  exact ⟨b, off, h1, h2, this⟩
set_option maxHeartbeats 8000000 in
theorem bof_any (a : Option Addr) (c : Nat) (ps : List Nat) (bs : List Bt) (w : World) (hv : Gs RPT w (.slice a ps.length c) ps) (hl : bs.length = ps.length) (hz : ∀ i, i < ps.length → RdP w (ps.getD i 0) (bs.getD i zb)) (hn : ps.length ≤ 1000) (hb : ∀ i, i < ps.length → (bs.getD i zb).2.length ≤ 3000) :
    Calls Tryz.prog 82 #[.slice a ps.length c] w fun e w' => ∃ r, e = .returned r ∧ RowB w' w.heap.size r bs ∧ Below w.heap.size w w' := by
  have HV := Lib.hid hv
  have HL := Lib.hid hl
  have HZ := Lib.hid hz
  have HN := Lib.hid hn
  have HBL := Lib.hid hb
  clear hv hl hz hb
  go_enter Tryz.func82, Tryz.ntmps82
  go_wp2_with fail
  go_loopw [3, 8] (fun lv iv wr => ∃ (k : Nat) (ax : Option Addr) (cx : Nat), k ≤ ps.length ∧ iv = .int .i64 k ∧ lv = .slice ax k cx ∧ Hid (RowB wr w.heap.size (.slice ax k cx) (bs.take k)) ∧ Hid (Below w.heap.size w wr)) (fun _ i _ => ps.length - (intOf i).toNat)
  case atStart => exact ⟨0, none, 0, Nat.zero_le _, rfl, rfl, RowB_nil _ _, Below.refl _ _⟩
  case round =>
    obtain ⟨k, ax, cx, hk, rfl, rfl, HR, HB⟩ := hrel
    by_cases hlt : k < ps.length
    · obtain ⟨b2, off, rfl, hb2, hc0⟩ := pt_at HV.out hlt
      obtain ⟨hq0, u, hq1, hq2⟩ := HZ.out k hlt
      have hql := HBL.out k hlt
      have hst : bs.take (k + 1) = bs.take k ++ [bs.getD k zb] := by rw [List.take_succ_eq_append_getElem (by have := HL.out; omega)]; simp [List.getD, show k < bs.length by have := HL.out; omega]
      obtain ⟨p, hp⟩ : ∃ p, ps.getD k 0 = p := ⟨_, rfl⟩
      obtain ⟨x, hx⟩ : ∃ x, bs.getD k zb = x := ⟨_, rfl⟩
      rw [hp] at hc0 hq0 hq1
      rw [hx] at hq0 hq2 hql hst
      obtain ⟨n, ys⟩ := x
      obtain ⟨a0, c0, rfl⟩ := hq2.form
      have HYL : Hid (ys.length ≤ 3000) := hql
      have hpl : p < w.heap.size := World.block_lt_of_cell? w _ hq0
      have HOS := Lib.hid (hq2.below HB.out)
      have hltz : (k : Int) < ps.length := by omega
      have e0 : wr.cell? ⟨b2, off + k, none⟩ = some (ptr p) := (HB.out.cell (p := ⟨b2, off + k, none⟩) hb2).trans hc0
      have e1 : wr.cell? ⟨p, 0, none⟩ = some (.int .i64 n) := (HB.out.cell (p := ⟨p, 0, none⟩) hpl).trans hq0
      have e2 : wr.cell? ⟨p, 1, none⟩ = some (.slice a0 ys.length c0) := (HB.out.cell (p := ⟨p, 1, none⟩) hpl).trans hq1
      have hpr : p < wr.heap.size := World.block_lt_of_cell? wr _ e1
      have kc : ∀ w', Below wr.heap.size wr w' → w'.cell? ⟨p, 0, none⟩ = some (.int .i64 n) ∧ w'.cell? ⟨p, 1, none⟩ = some (.slice a0 ys.length c0) := fun w' h => ⟨(h.cell (p := ⟨p, 0, none⟩) hpr).trans e1, (h.cell (p := ⟨p, 1, none⟩) hpr).trans e2⟩
      have HST := Lib.hid hst
      have HPL := Lib.hid hpr
      clear hp hx hst hq0 hq1 hq2 hql hc0 hb2 hpl e1 e2 hpr
      go_upto_region 5 with (fail)
      clear e0
      refine T3.wp_region_tailT (C := fun w' => Below wr.heap.size wr w') (X := fun _ w w' => Below w.heap.size w w') (n := 29) 14 (by kernel_rfl) (by kernel_rfl) (by kernel_rfl) (by kernel_rfl) rfl (fun _ w => Below.refl _ w) (Below.refl _ _).drew ?_
      simp only [List.take_succ_cons, List.take_zero, List.drop_succ_cons, List.drop_zero]
      refine T3.w_is (fun _ w => Below.refl _ w) rfl _ (.inl rfl) (fun ρ w hC hc hfn hf => by have e3 : ρ (.tmp 3) = _ := hf 3 (by decide); (conv => lhs; simp [execOp, go_sem, hc, e3])) ?_
      refine T3.w_is (fun _ w => Below.refl _ w) rfl _ (.inl rfl) (fun ρ w hC hc hfn hf => by have e5 : ρ (.tmp 5) = _ := hf 5 (by decide); (conv => lhs; simp [execOp, go_sem, hc, e5])) ?_
      refine T3.w_is (fun _ w => Below.refl _ w) rfl _ (.inl rfl) (fun ρ w hC hc hfn hf => by have e13 : ρ (.tmp 13) = _ := hf 13 (by decide); (conv => lhs; simp [execOp, go_sem, hc, e13])) ?_
      refine T3.w_is (fun _ w => Below.refl _ w) rfl _ (.inl rfl) (fun ρ w hC hc hfn hf => by have e14 : ρ (.tmp 14) = _ := hf 14 (by decide); (conv => lhs; simp [execOp, go_sem, hc, e14])) ?_
      refine T3.w_is (fun _ w => Below.refl _ w) rfl _ (.inl rfl) (fun ρ w hC hc hfn hf => by have e15 : ρ (.tmp 15) = _ := hf 15 (by decide); (conv => lhs; simp [execOp, go_sem, hc, e15])) ?_
      refine T3.w_is (fun _ w => Below.refl _ w) rfl _ (.inl rfl) (fun ρ w hC hc hfn hf => by have e16 : ρ (.tmp 16) = _ := hf 16 (by decide); (conv => lhs; simp [execOp, go_sem, hc, e16, kc w hC])) ?_
      refine T3.w_is (fun _ w => Below.refl _ w) rfl _ (.inl rfl) (fun ρ w hC hc hfn hf => by have e5 : ρ (.tmp 5) = _ := hf 5 (by decide); (conv => lhs; simp [execOp, go_sem, hc, e5])) ?_
      refine T3.w_is (fun _ w => Below.refl _ w) rfl _ (.inl rfl) (fun ρ w hC hc hfn hf => by have e18 : ρ (.tmp 18) = _ := hf 18 (by decide); (conv => lhs; simp [execOp, go_sem, hc, e18])) ?_
      refine T3.w_is (fun _ w => Below.refl _ w) rfl _ (.inl rfl) (fun ρ w hC hc hfn hf => by have e19 : ρ (.tmp 19) = _ := hf 19 (by decide); (conv => lhs; simp [execOp, go_sem, hc, e19])) ?_
      refine T3.w_is (fun _ w => Below.refl _ w) rfl _ (.inl rfl) (fun ρ w hC hc hfn hf => by have e20 : ρ (.tmp 20) = _ := hf 20 (by decide); (conv => lhs; simp [execOp, go_sem, hc, e20])) ?_
      refine T3.w_is (fun _ w => Below.refl _ w) rfl _ (.inl rfl) (fun ρ w hC hc hfn hf => by have e21 : ρ (.tmp 21) = _ := hf 21 (by decide); (conv => lhs; simp [execOp, go_sem, hc, e21, kc w hC])) ?_
      refine T3.w_call rfl (NewCl wr ys) (NewCl.keeps wr _ 11) 96 (.inl rfl) (fun ρ w hC hc hfn hf => by have e22 : ρ (.tmp 22) = _ := hf 22 (by decide); exact ⟨_, by (conv => lhs; simp [execOp, resolve, invoke, go_sem, hc, hfn, e22]), (oclone_any (.slice a0 ys.length c0) ys w (HOS.out.below hC) HYL.out).mono fun e w' h => by obtain ⟨⟨a, c, h1, h2⟩, h3⟩ := h; exact ⟨_, h1, hC.trans (h3.mono hC.size), h3, ⟨a, c, rfl, h2.mono0 hC.size⟩⟩⟩) ?_
      refine T3.w_make rfl (NewBd wr n ys) (NewBd.keeps wr n ys 12) (.inl rfl) (fun ρ w hC hc hfn hf => by have e17 : ρ (.tmp 17) = _ := hf 17 (by decide); obtain ⟨a2, c2, e23, ho⟩ := (show (NewCl wr ys) (ρ (.tmp 23)) w from hf 23 (by decide)); exact ⟨_, _, by (conv => lhs; simp [execOp, go_sem, hc, e17, e23]), hC, Below.refl _ _, ⟨a2, c2, rfl, ho⟩⟩) ?_
      refine T3.w_make rfl (NewBr wr n ys) (NewBr.keeps wr n ys 13) (.inl rfl) (fun ρ w hC hc hfn hf => by obtain ⟨a2, c2, e24, ho⟩ := (show (NewBd wr n ys) (ρ (.tmp 24)) w from hf 24 (by decide)); exact ⟨_, _, by (conv => lhs; simp [execOp, go_sem, hc, e24]), hC.trans (((Below.refl _ w).alloc (Nat.le_refl _) _).mono hC.size), (Below.refl _ w).alloc (Nat.le_refl _) _, ⟨w.heap.size, a2, c2, rfl, hC.size, by simp, by simp, ho.below ((Below.refl _ w).alloc (Nat.le_refl _) _)⟩⟩) ?_
      intro A V5 hC hn hd hf
      obtain ⟨a2, c2, y23, -⟩ := (show (NewCl wr ys) (A.eval (.tmp 23)) V5 from hf 23)
      obtain ⟨a3, c3, y24, -⟩ := (show (NewBd wr n ys) (A.eval (.tmp 24)) V5 from hf 24)
      obtain ⟨bq, a4, c4, y25, hb0, hbc0, hbc1, ho⟩ := (show (NewBr wr n ys) (A.eval (.tmp 25)) V5 from hf 25)
      have y0 : A.eval (.tmp 0) = _ := Eq.trans (hf 0) (by conv => lhs; simp [go_sem])
      have y1 : A.eval (.tmp 1) = _ := Eq.trans (hf 1) (by conv => lhs; simp [go_sem])
      have y2 : A.eval (.tmp 2) = _ := Eq.trans (hf 2) (by conv => lhs; simp [go_sem])
      have y3 : A.eval (.tmp 3) = _ := Eq.trans (hf 3) (by conv => lhs; simp [go_sem])
      have y4 : A.eval (.tmp 4) = _ := Eq.trans (hf 4) (by conv => lhs; simp [go_sem])
      have y5 : A.eval (.tmp 5) = _ := Eq.trans (hf 5) (by conv => lhs; simp [go_sem])
      have y6 : A.eval (.tmp 6) = _ := Eq.trans (hf 6) (by conv => lhs; simp [go_sem])
      have y7 : A.eval (.tmp 7) = _ := Eq.trans (hf 7) (by conv => lhs; simp [go_sem])
      have y8 : A.eval (.tmp 8) = _ := Eq.trans (hf 8) (by conv => lhs; simp [go_sem])
      have y9 : A.eval (.tmp 9) = _ := Eq.trans (hf 9) (by conv => lhs; simp [go_sem])
      have y10 : A.eval (.tmp 10) = _ := Eq.trans (hf 10) (by conv => lhs; simp [go_sem])
      have y11 : A.eval (.tmp 11) = _ := Eq.trans (hf 11) (by conv => lhs; simp [go_sem])
      have y12 : A.eval (.tmp 12) = _ := hf 12
      have y13 : A.eval (.tmp 13) = _ := hf 13
      have y14 : A.eval (.tmp 14) = _ := hf 14
      have y15 : A.eval (.tmp 15) = _ := hf 15
      have y16 : A.eval (.tmp 16) = _ := hf 16
      have y17 : A.eval (.tmp 17) = _ := hf 17
      have y18 : A.eval (.tmp 18) = _ := hf 18
      have y19 : A.eval (.tmp 19) = _ := hf 19
      have y20 : A.eval (.tmp 20) = _ := hf 20
      have y21 : A.eval (.tmp 21) = _ := hf 21
      have y22 : A.eval (.tmp 22) = _ := hf 22
      have y26 : A.eval (.tmp 26) = _ := Eq.trans (hf 26) (by conv => lhs; simp [go_sem])
      have y27 : A.eval (.tmp 27) = _ := Eq.trans (hf 27) (by conv => lhs; simp [go_sem])
      have y28 : A.eval (.tmp 28) = _ := Eq.trans (hf 28) (by conv => lhs; simp [go_sem])
      clear hf
      have hA := frame_eq hn
      rw [show List.range 29 = [0, 1, 2, 3, 4, 5, 6, 7, 8, 9, 10, 11, 12, 13, 14, 15, 16, 17, 18, 19, 20, 21, 22, 23, 24, 25, 26, 27, 28] from rfl, hd] at hA
      simp only [List.map_cons, List.map_nil, y0, y1, y2, y3, y4, y5, y6, y7, y8, y9, y10, y11, y12, y13, y14, y15, y16, y17, y18, y19, y20, y21, y22, y23, y24, y25, y26, y27, y28] at hA
      clear y0 y1 y2 y3 y4 y5 y6 y7 y8 y9 y10 y11 y12 y13 y14 y15 y16 y17 y18 y19 y20 y21 y22 y23 y24 y25 y26 y27 y28
      clear hn hd
      subst hA
      have hb5 := HB.out.trans (hC.mono HB.out.size)
      have hr5 := HR.out.below hC
      have hkl : (bs.take k).length = k := by rw [List.length_take]; have := HL.out; omega
      obtain ⟨r, w6, hr, hq, hb6⟩ := run_bapp2 V5 103 w.heap.size (.slice ax k cx) (bs.take k) hr5 bq n a4 c4 ys hbc0 hbc1 (ho.mono0 (HB.out.size)) (by have := HN.out; omega) hb5.size
      rw [← HST.out] at hq
      obtain ⟨ar, cr, rfl⟩ := hq.form'
      have hkl2 : (bs.take (k + 1)).length = k + 1 := by rw [List.length_take]; have := HL.out; omega
      rw [hkl2] at hq hr
      have HQ := Lib.hid hq
      have HB6 := Lib.hid (hb5.trans hb6)
      clear hb5 hr5 hkl hq hb6 hkl2 hC hb0 hbc0 hbc1 ho kc
      go_wp2_with (at_builtin; refine app_go rfl (.tmp 12) (.tmp 25) 103 rfl _ _ _ _ rfl rfl hr ?_)
      go_roundw
      case rel => exact ⟨k + 1, ar, cr, by omega, by go_num, rfl, HQ.out, HB6.out⟩
      case measure => simp [intOf]; omega
    · obtain rfl : k = ps.length := by omega
      have e1 : bs.take ps.length = bs := List.take_of_length_le (by rw [HL.out]; exact Nat.le_refl _)
      have HRR : Hid (RowB wr w.heap.size (.slice ax ps.length cx) bs) := by have h := HR.out; rw [e1] at h; exact h
      clear e1 HR
      go_wp2_with fail
      go_ret
      exact ⟨_, rfl, HRR.out, HB.out⟩
end Go.Proofs.YtdigjklhfimnbaaGreat
