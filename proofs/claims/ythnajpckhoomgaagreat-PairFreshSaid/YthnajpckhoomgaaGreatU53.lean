/- Texts Ya6 of this proof, in one. No conditions but on lengths. -/
import Derived.Test.YthnajpckhoomgaaGreatRows
import Derived.Test.YthnajpckhoomgaaGreatU44
import Derived.Test.YthnajpckhoomgaaGreatU45
import Derived.Test.YthnajpckhoomgaaGreatU52
import Derived.ArgAppend
import Derived.Below
import Derived.BigQuiet
import Derived.BigRegion
import Derived.Calls
import Derived.ChangeAlike
import Derived.ChangeArms
import Derived.ChangeKeysEq
import Derived.ChangeMade
import Derived.ChangeOld
import Derived.Deep.Cut
import Derived.Deep.CutBlock
import Derived.Deep.LoopGhost
import Derived.Deep.QuietTactic
import Derived.Deep.RegionHeld
import Derived.Deep.RegionLaw
import Derived.Deep.RegionWith
import Derived.Deep.Slices
import Derived.Defers
import Derived.Ground.GgzProg
import Derived.Ground.Names2Prog
import Derived.Laws.AppendOwnNone
import Derived.Laws.BitsLemmas
import Derived.Laws.BytesArg
import Derived.Laws.LoneSync
import Derived.Laws.OwnMore
import Derived.Laws.Pointers
import Derived.Laws.StructEq
import Derived.Lib.ConvBytes
import Derived.Lib.Hide
import Derived.Lib.OwnBridge
import Derived.Lib.QuietBelow
import Derived.Lib.SliceRun
import Derived.Lib.SlicesCompact
import Derived.LoopIn
import Derived.LoopTactic
import Derived.Maps.AppendAt
import Derived.Maps.Own
import Derived.Maps.OwnOps
import Derived.Maps.OwnSet
import Derived.Maps.RangeWalk
import Derived.Maps.Views
import Derived.OpenShut
import Derived.Orders
import Derived.Outline
import Derived.OwnWalkIn
import Derived.ProofKit
import Derived.RangeFuncBox
import Derived.RangeFuncCalls
import Derived.RangeFuncLeaves
import Derived.RangeFuncNested
import Derived.RegionCalls
import Derived.RegionTactic
import Derived.Shelf.RegionOpen
import Derived.Shelf.RegionOpenPlain
import Derived.Shelf.SlIterI.Nil
import Derived.Shelf.Slices.CompactI
import Derived.Shelf.Slices.In.SortNone
import Derived.Shelf.Sort.Plain
import Derived.ShutString
import Derived.Sort.Grow
import Derived.StillTail
import Derived.TacticsInMore
import Derived.WalkKit
import Derived.WalkLawsBesides
import Derived.WalkSpells
import Derived.WideShapes
namespace Go.Proofs.YthnajpckhoomgaaGreat
set_option maxRecDepth 100000
set_option linter.unusedVariables false
open Go.RowKit

theorem told_le {t : Tk} (h : TkOk t) (x : Bt) : (takeR t x).1.1.length ≤ 600 := by
  by_cases hin : TkIn t x
  · obtain ⟨_, _, B, e, hB, _, hl, _⟩ := take_ok h hin
    have h16 := held_le h
    have hb : ∀ y ∈ B, y.2.length ≤ 32 := fun y hy => by
      obtain ⟨i, hi, rfl⟩ := List.mem_iff_getElem.1 hy
      rcases (hB i hi).1 with h1 | h1
      · exact (h.ok _ h1).2.1.2
      · rw [h1]; exact hin.1.2.1.2
    have hf : ∀ (l : List Bt), (∀ y ∈ l, y.2.length ≤ 32) → ((l.map Prod.snd).flatten).length ≤ 32 * l.length := by
      intro l
      induction l with
      | nil => intro _; exact Nat.le_refl _
      | cons y l ih =>
        intro hy
        have h1 := ih (fun z hz => hy z (List.mem_cons_of_mem _ hz))
        have h2 := hy y List.mem_cons_self
        rw [List.map_cons, List.flatten_cons, List.length_append, List.length_cons]
        omega
    have := hf B hb
    rw [e]
    omega
  · obtain ⟨e, he, _⟩ := take_no hin
    rw [he]
    exact Nat.zero_le _
theorem hear1_len {p : Pr} (h : TkOk p.t) (q : Pt) : (hear1 p q).1.length ≤ 600 := by
  unfold hear1
  split
  · exact told_le h _
  · split <;> exact Nat.zero_le _
/-- What is kept of who one is, and of the taker's being right. -/
theorem hear1_ok {p : Pr} (h : TkOk p.t) (q : Pt) : TkOk (hear1 p q).2.t ∧ (hear1 p q).2.me = p.me ∧ (hear1 p q).2.pe = p.pe := by
  unfold hear1
  split
  · exact ⟨tkok_take h _, rfl, rfl⟩
  · split
    · exact ⟨h, rfl, rfl⟩
    · exact ⟨h, rfl, rfl⟩
theorem take_getD {α : Type} (qs : List α) (d : α) {k : Nat} (h : k < qs.length) : qs.take (k + 1) = qs.take k ++ [qs.getD k d] := by
  rw [List.take_add_one]
  congr 1
  rw [List.getD_eq_getElem?_getD, List.getElem?_eq_getElem h]
  rfl
theorem hearL_step (p : Pr) (qs : List Pt) {k : Nat} (h : k < qs.length) : hearL p (qs.take (k + 1)) = hearS (hearL p (qs.take k)) (qs.getD k zPt) := by rw [take_getD qs zPt h, hearL_snoc]
theorem hearL_ok {p : Pr} (h : TkOk p.t) (qs : List Pt) : ∀ k, k ≤ qs.length → TkOk (hearL p (qs.take k)).2.t ∧ (hearL p (qs.take k)).2.me = p.me ∧ (hearL p (qs.take k)).2.pe = p.pe ∧ (hearL p (qs.take k)).1.length ≤ 600 * k
  | 0, _ => ⟨h, rfl, rfl, Nat.le_refl _⟩
  | k + 1, hk => by
    obtain ⟨h1, h2, h3, h4⟩ := hearL_ok h qs k (by omega)
    rw [hearL_step p qs (by omega)]
    obtain ⟨k1, k2, k3⟩ := hear1_ok h1 (qs.getD k zPt)
    refine ⟨k1, k2.trans h2, k3.trans h3, ?_⟩
    show ((hearL p (qs.take k)).1 ++ (hear1 (hearL p (qs.take k)).2 (qs.getD k zPt)).1).length ≤ _
    rw [List.length_append]
    have := hear1_len h1 (qs.getD k zPt)
    omega
theorem Nx.grow {w0 w w' : World} {F0 F : Nat → Prop} {v : Value} (h : Nx w0 w F0 F) (hg : w.grownBy w' v.ownBlock) (hv : ∀ g, v.ownBlock = some g → w0.heap.size ≤ g) : Nx w0 w' F0 F := ⟨h.1.grown hg (fun k hk => .inr (hv k hk)), h.2⟩
/-- More is told. -/
theorem told_app {w : World} {F : Nat → Prop} {b S : Nat} {p : Pr} {v : Value} {xs : List Ob} (h : PP w F b p) (hv : RowF w S F v xs) (u : Value) (ys : List Ob) (hu : Os w u ys) (hl : xs.length + ys.length ≤ 30000) (hS : S ≤ w.heap.size) (tt : TypeId) : ∃ a c w', (Builtin.append_ #[51, 51] tt #[v, u]).run Tryz.prog w = .ok (.slice a (xs ++ ys).length c) w' ∧ RowF w' S F (.slice a (xs ++ ys).length c) (xs ++ ys) ∧ PP w' F b p ∧ w.grownBy w' v.ownBlock := by
  obtain ⟨r, w', hr, ho, hg, hrr⟩ := run_gappo w tt S v xs hv.own u ys hu hl hS
  obtain ⟨a, c, rfl⟩ := own_form ho
  exact ⟨a, c, w', hr, hv.grew ho h.lt hrr, h.keep (chg_grown hg) (fun k hk e => hv.off k e hk), hg⟩
section
variable {w w' : World} {F : Nat → Prop} {b : Nat} {p : Pr}
set_option maxHeartbeats 16000000 in
theorem prhear_any (a : Option Addr) (c : Nat) (ps : List Pt) (h : PP w F b p) (hp : PaO w F a c ps) (hf : ∀ i, i < ps.length → PtFew (ps.getD i zPt)) (hok : FrOk p.pe.1 p.pe.2 p.me.1 p.me.2 ps) : Calls Tryz.prog 19 #[.pointer (some ⟨b, 0, none⟩), .agg #[.int .i64 p.pe.1, .int .i64 p.pe.2, .int .i64 p.me.1, .int .i64 p.me.2, .slice a ps.length c]] w fun e w' => ∃ r, e = .returned (.tuple #[r, .int .i64 0]) ∧ ∃ F', PP w' F' b (hearL p ps).2 ∧ Nx w w' F F' ∧ RowF w' w.heap.size F' r (hearL p ps).1 := by
  obtain ⟨W1, hW1⟩ : ∃ W1, w.alloc (.cells #[.int .i64 p.pe.1, .int .i64 p.pe.2, .int .i64 p.me.1, .int .i64 p.me.2, .slice a ps.length c] 42) = W1 := ⟨_, rfl⟩
  obtain ⟨g0, hg0⟩ : ∃ g0, w.heap.size = g0 := ⟨_, rfl⟩
  have hb : Below w.heap.size w W1 := hW1 ▸ (Below.refl _ w).alloc (Nat.le_refl _) _
  have hr : OwnF W1 g0 p.pe.1 p.pe.2 p.me.1 p.me.2 (.slice a ps.length c) := hg0 ▸ hW1 ▸ ownf_alloc w p.pe.1 p.pe.2 p.me.1 p.me.2 (.slice a ps.length c) 42 w.heap.size rfl
  have HR := Lib.hid hr
  have HB := Lib.hid hb
  have HH := Lib.hid (h.below hb)
  have HPA := Lib.hid (hp.below hb)
  have HPA0 := Lib.hid hp
  have HFW := Lib.hid hf
  have HL8 : Hid (ps.length ≤ 8) := hok.1.2.2.2.2.2
  have HNE : Hid (p.me.1 ≠ p.pe.1) := h.ok.2.2.2.2
  have HT := Lib.hid h.ok.2.1
  have e5 : decide (FrOk p.pe.1 p.pe.2 p.me.1 p.me.2 ps ∧ p.pe.1 ≠ p.me.1 ∧ (p.me.1 = p.me.1 ∨ p.me.1 = 255)) = true := decide_eq_true ⟨hok, fun e => HNE.out e.symm, .inl rfl⟩
  have HW := Lib.hid hW1
  have HG := Lib.hid hg0
  have HGL : Hid (g0 < W1.heap.size ∧ w.heap.size = g0) := ⟨hr.lt, hg0⟩
  have HGF : Hid (¬ F g0) := fun hk => by have := h.lt g0 hk; omega
  clear hW1 hg0 hb h hp hf hok hr
  go_enter Tryz.func19, Tryz.ntmps19
  go_upto_region 3 with (fail)
  rw [HW.out]
  try simp only [HG.out]
  obtain ⟨⟨u0, u1, u2, u3, u4⟩, uf⟩ := HR.out
  obtain ⟨Fs, Ft, b1, b2, hx, rfl⟩ := HH.out
  have HX := Lib.hid hx
  have c0 := hx.c0
  have c1 := hx.c1
  have c2 := hx.c2
  have c3 := hx.c3
  have CF := gfor_any p.pe.1 p.pe.2 p.me.1 p.me.2 a c ps p.me.1 W1.drew (HPA.out.nx (w' := W1.drew) ⟨(Chg.refl _ W1).drew, fun k hk => .inl hk⟩).rd HFW.out
  rw [e5] at CF
  have HCF := Lib.hid CF
  have d0 : (p.pe.1 != p.pe.1) = false := by simp
  have d1 : (p.pe.2 != p.pe.2) = false := by simp
  have d2 : (p.me.2 != p.me.2) = false := by simp
  clear hx CF e5
  go_region_held (fun w' => (w'.cell? ⟨g0, 0, none⟩ = some (.int .i64 p.pe.1) ∧ w'.cell? ⟨g0, 1, none⟩ = some (.int .i64 p.pe.2) ∧ w'.cell? ⟨g0, 2, none⟩ = some (.int .i64 p.me.1) ∧ w'.cell? ⟨g0, 3, none⟩ = some (.int .i64 p.me.2) ∧ w'.cell? ⟨g0, 4, none⟩ = some (.slice a ps.length c)) ∧ w'.cell? ⟨b, 0, none⟩ = some (.int .i64 p.me.1) ∧ w'.cell? ⟨b, 2, none⟩ = some (.int .i64 p.pe.1)) (first | exact ⟨⟨u0, u1, u2, u3, u4⟩, c0, c2⟩ | exact S2 | go_keep) (first | (go_at_call 41; refine HCF.out.mono ?_; rintro e w2 ⟨rfl, hb⟩; have HB2 := Lib.hid hb; have S2 := (⟨⟨(hb.cell (p := ⟨g0, 0, none⟩) HGL.out.1).trans u0, (hb.cell (p := ⟨g0, 1, none⟩) HGL.out.1).trans u1, (hb.cell (p := ⟨g0, 2, none⟩) HGL.out.1).trans u2, (hb.cell (p := ⟨g0, 3, none⟩) HGL.out.1).trans u3, (hb.cell (p := ⟨g0, 4, none⟩) HGL.out.1).trans u4⟩, (hb.cell (p := ⟨b, 0, none⟩) HX.out.blt).trans c0, (hb.cell (p := ⟨b, 2, none⟩) HX.out.blt).trans c2⟩ : (w2.cell? ⟨g0, 0, none⟩ = some (.int .i64 p.pe.1) ∧ w2.cell? ⟨g0, 1, none⟩ = some (.int .i64 p.pe.2) ∧ w2.cell? ⟨g0, 2, none⟩ = some (.int .i64 p.me.1) ∧ w2.cell? ⟨g0, 3, none⟩ = some (.int .i64 p.me.2) ∧ w2.cell? ⟨g0, 4, none⟩ = some (.slice a ps.length c)) ∧ w2.cell? ⟨b, 0, none⟩ = some (.int .i64 p.me.1) ∧ w2.cell? ⟨b, 2, none⟩ = some (.int .i64 p.pe.1)); clear hb))
  have hx2 : PPE w2 Fs Ft b b1 b2 p := (HX.out.keep (w' := W1.drew) (G := fun _ => False) ((Chg.refl _ W1).drew) (fun _ _ g => g)).below HB2.out
  have HX2 := Lib.hid hx2
  have HN2 : Hid (Nx w w2 (GP Fs Ft b) (GP Fs Ft b)) := (nx_drew _ HB.out).trans (.below HB2.out)
  clear u0 u1 u2 u3 u4 uf c0 c1 c2 c3
  obtain ⟨⟨u0, u1, u2, u3, u4⟩, c0, c2⟩ := S2
  have c1 := hx2.c1
  have c3 := hx2.c3
  clear hx2
  go_upto_region 5 with (fail)
  go_quiet (fail)
  obtain ⟨W3, hW3⟩ : ∃ W, w2.drewN nq = W := ⟨_, rfl⟩
  have HX3 : Hid (PPE W3 Fs Ft b b1 b2 p) := hW3 ▸ HX2.out.keep (G := fun _ => False) ((Chg.refl _ w2).dn nq) (fun _ _ g => g)
  have HN3 : Hid (Nx w W3 (GP Fs Ft b) (GP Fs Ft b)) := hW3 ▸ HN2.out.trans ⟨(Chg.refl _ w2).dn nq, fun k hk => .inl hk⟩
  have k4 : W3.cell? ⟨g0, 4, none⟩ = some (.slice a ps.length c) := hW3 ▸ u4
  rw [hW3]
  clear hW3 u0 u1 u2 u3 u4 c0 c1 c2 c3 d0 d1 d2
  go_wp2_with fail
  clear k4
  go_loopw [6, 50] (fun v i wr => ∃ (k : Nat) (F' : Nat → Prop), k ≤ ps.length ∧ i = .int .i64 k ∧ PP wr F' b (hearL p (ps.take k)).2 ∧ Nx w wr (GP Fs Ft b) F' ∧ RowF wr w.heap.size F' v (hearL p (ps.take k)).1) (fun _ i _ => ps.length - (intOf i).toNat)
  case atStart => exact ⟨0, _, Nat.zero_le _, rfl, ⟨Fs, Ft, b1, b2, HX3.out, rfl⟩, HN3.out, RowF_nil _ _ _⟩
  case round =>
    obtain ⟨k, F', hk, rfl, hp, hn, hv⟩ := hrel
    have hln := hearL_ok HT.out ps k hk
    have HST : Hid (∀ q, k < ps.length → ps.getD k zPt = q → hearL p (ps.take (k + 1)) = hearS (hearL p (ps.take k)) q) := fun q hk hq => by rw [hearL_step p ps hk, hq]
    have HEND : Hid (k = ps.length → hearL p ps = hearL p (ps.take k)) := fun e => by rw [e, List.take_length]
    obtain ⟨⟨T, P⟩, hTP⟩ : ∃ x, hearL p (ps.take k) = x := ⟨_, rfl⟩
    rw [hTP] at hp hv hln HST HEND
    dsimp only at hp hv
    have HLN : Hid (T.length ≤ 600 * k) := hln.2.2.2
    have HTK : Hid (TkOk P.t) := hln.1
    obtain ⟨av, cv, rfl⟩ := hv.form
    have HN9 := Lib.hid hn
    clear hTP hln
    by_cases hlt : k < ps.length
    · have hpa := HPA0.out.nx hn
      obtain ⟨bx, off, r, rfl, hbx, hnx, xx, hpt⟩ := hpa.at hlt
      obtain ⟨q, hq⟩ : ∃ q, ps.getD k zPt = q := ⟨_, rfl⟩
      have hfw := HFW.out k hlt
      rw [hq] at hpt hfw
      have HS1 := Lib.hid (HST.out q hlt hq)
      obtain ⟨V, hV⟩ : ∃ V, wr.alloc (.cells #[.int .i64 r.k, .int .i64 r.be, .slice r.a1 r.l1 r.c1, .int .i64 r.bn, .slice r.a2 r.l2 r.c2, .slice r.a3 r.l3 r.c3, .int .i64 r.s, .int .i64 r.d, .int .i64 r.t, .int .i64 r.n, .string r.x] 77) = V := ⟨_, rfl⟩
      obtain ⟨g1, hg1⟩ : ∃ g1, wr.heap.size = g1 := ⟨_, rfl⟩
      have hb : Below wr.heap.size wr V := hV ▸ (Below.refl _ wr).alloc (Nat.le_refl _) _
      obtain ⟨y0, y1, y2, y3, y4, y5, y6, y7, y8, y9, y10⟩ : V.cell? ⟨g1, 0, none⟩ = some (.int .i64 r.k) ∧ V.cell? ⟨g1, 1, none⟩ = some (.int .i64 r.be) ∧ V.cell? ⟨g1, 2, none⟩ = some (.slice r.a1 r.l1 r.c1) ∧ V.cell? ⟨g1, 3, none⟩ = some (.int .i64 r.bn) ∧ V.cell? ⟨g1, 4, none⟩ = some (.slice r.a2 r.l2 r.c2) ∧ V.cell? ⟨g1, 5, none⟩ = some (.slice r.a3 r.l3 r.c3) ∧ V.cell? ⟨g1, 6, none⟩ = some (.int .i64 r.s) ∧ V.cell? ⟨g1, 7, none⟩ = some (.int .i64 r.d) ∧ V.cell? ⟨g1, 8, none⟩ = some (.int .i64 r.t) ∧ V.cell? ⟨g1, 9, none⟩ = some (.int .i64 r.n) ∧ V.cell? ⟨g1, 10, none⟩ = some (.string r.x) := by
        rw [← hV, ← hg1]
        refine ⟨?_, ?_, ?_, ?_, ?_, ?_, ?_, ?_, ?_, ?_, ?_⟩ <;> simp
      have hpv := hp.below hb
      have hptv := hpt.nx (.below hb)
      have HVV := Lib.hid (hv.below hb)
      have HNV := Lib.hid (hn.trans (.below hb))
      have HSV : Hid (w.heap.size ≤ V.heap.size) := HNV.out.1.size
      have HFQ := Lib.hid hfw
      have HW := Lib.hid hV
      have HG1 := Lib.hid hg1
      clear hV hg1
      have hk0 : (0 : Int) ≤ (k : Int) := by omega
      have hk1 : (k : Int) < (ps.length : Int) := by omega
      have hk8 : (ps.length : Int) ≤ 8 := by have := HL8.out; omega
      have hkn : ((k : Int)).toNat = k := Int.toNat_natCast k
      have rk := hptv.rd.k
      have rl2 := hptv.rd.l2
      have rl3 := hptv.rd.l3
      have rbn := hptv.rd.bn
      obtain ⟨x0, x1, x2, x3, x4, x5, x6, x7, x8, x9, x10⟩ := xx
      by_cases e2 : q.k = 2
      · have d2 : (r.k == 2) = true := by rw [rk]; simpa using e2
        have C := Lib.hid (prtake_any r.bn (.slice r.a2 r.l2 r.c2) q.os hpv hptv.rd.os (fun x n c e hne => by
          simp only [Value.slice.injEq] at e
          refine (hptv.o2 (fun h0 => hne ?_) x e.1).2
          rw [rl2] at h0
          exact List.eq_nil_of_length_eq_zero h0) (by have := HFQ.out.2.1; omega))
        have HH1 : Hid (hear1 P q = ((takeR P.t (r.bn, q.os)).1.1, takeP P (r.bn, q.os))) := by
          show _ = _
          unfold hear1
          rw [if_pos e2, rbn]
        clear hpv hptv rk rl2 rl3 rbn e2 hp hpt hpa hv hn hb hnx hbx hfw hq
        go_upto_region 11 with (fail)
        rw [HW.out]
        try simp only [HG1.out]
        go_wp2_with fail
        refine C.out.mono ?_
        rintro e w5 ⟨r9, rfl, F2, hp2, hn2, hr2⟩
        obtain ⟨a9, c9, rfl⟩ := own_form hr2.1
        have hlen9 := told_le HTK.out (r.bn, q.os)
        obtain ⟨a7, c7, W7, hrun, hv7, hp7, hg7⟩ := told_app hp2 (HVV.out.step hn2.1 hn2.2) _ (takeR P.t (r.bn, q.os)).1.1 hr2.1.os (by have := HLN.out; omega) (Nat.le_trans HSV.out hn2.1.size) 51
        have HV7 := Lib.hid hv7
        have HP7 := Lib.hid hp7
        have HN7 := Lib.hid ((HNV.out.trans hn2).grow hg7 (fun g hg => (HVV.out.lt g hg).1))
        clear hp2 hn2 hr2 hlen9 hv7 hp7 hg7 x0 x1 x2 x3 x4 x5 x6 x7 x8 x9 x10 y0 y1 y2 y3 y4 y5 y6 y7 y8 y9 y10 C d2
        go_wp2_with (at_builtin; refine app_go rfl (.tmp 58) (.tmp 62) 51 rfl _ _ _ _ rfl rfl hrun ?_)
        go_roundw
        case rel => exact ⟨k + 1, F2, hlt, by go_num, by rw [HS1.out]; show PP _ _ _ (hear1 P q).2; rw [HH1.out]; exact HP7.out, HN7.out, by rw [HS1.out]; show RowF _ _ _ _ (T ++ (hear1 P q).1); rw [HH1.out]; have h9 := HV7.out; rw [List.length_append] at h9; exact h9⟩
        case measure => simp [intOf]; omega
      · have d2 : (r.k == 2) = false := by rw [rk]; simpa using e2
        by_cases e3 : q.k = 3
        · have d3 : (r.k == 3) = true := by rw [rk]; simpa using e3
          have hks : r.l3 = q.ks.length := rl3
          have C0 := prgot_any r.a3 r.c3 q.ks hpv (by rw [← hks]; exact hptv.rd.ks) (by rw [← hks]; exact hptv.o3) (by have := HFQ.out.2.2.1; omega)
          rw [← hks] at C0
          have C := Lib.hid C0
          have HH1 : Hid (hear1 P q = ([], ⟨P.me, P.pe, gotsL P.me P.s q.ks, P.t, P.o⟩)) := by
            show _ = _
            unfold hear1
            rw [if_neg e2, if_pos e3]
          clear hpv hptv rk rl2 rl3 rbn e2 e3 hp hpt hpa hv hn hb hnx hbx hfw hq hks C0
          go_upto_region 11 with (fail)
          rw [HW.out]
          try simp only [HG1.out]
          go_wp2_with fail
          refine C.out.mono ?_
          rintro e w5 ⟨rfl, F2, hp2, hn2⟩
          have HV7 := Lib.hid (HVV.out.step hn2.1 hn2.2)
          have HP7 := Lib.hid hp2
          have HN7 := Lib.hid (HNV.out.trans hn2)
          clear hp2 hn2 x0 x1 x2 x3 x4 x5 x6 x7 x8 x9 x10 y0 y1 y2 y3 y4 y5 y6 y7 y8 y9 y10 C d2 d3
          go_wp2_with fail
          go_roundw
          case rel => exact ⟨k + 1, F2, hlt, by go_num, by rw [HS1.out]; show PP _ _ _ (hear1 P q).2; rw [HH1.out]; exact HP7.out, HN7.out, by rw [HS1.out]; show RowF _ _ _ _ (T ++ (hear1 P q).1); rw [HH1.out, List.append_nil]; exact HV7.out⟩
          case measure => simp [intOf]; omega
        · have d3 : (r.k == 3) = false := by rw [rk]; simpa using e3
          have HH1 : Hid (hear1 P q = ([], P)) := by
            show _ = _
            unfold hear1
            rw [if_neg e2, if_neg e3]
          have HP7 := Lib.hid hpv
          clear hpv hptv rk rl2 rl3 rbn e2 e3 hp hpt hpa hv hn hb hnx hbx hfw hq
          go_upto_region 11 with (fail)
          rw [HW.out]
          try simp only [HG1.out]
          go_wp2_with fail
          clear x0 x1 x2 x3 x4 x5 x6 x7 x8 x9 x10 y0 y1 y2 y3 y4 y5 y6 y7 y8 y9 y10 d2 d3
          go_roundw
          case rel => exact ⟨k + 1, F', hlt, by go_num, by rw [HS1.out]; show PP _ _ _ (hear1 P q).2; rw [HH1.out]; exact HP7.out, HNV.out, by rw [HS1.out]; show RowF _ _ _ _ (T ++ (hear1 P q).1); rw [HH1.out, List.append_nil]; exact HVV.out⟩
          case measure => simp [intOf]; omega
    · have ek : k = ps.length := by omega
      have HP := Lib.hid hp
      have HV := Lib.hid hv
      have HE9 : Hid (hearL p ps = (T, P)) := HEND.out ek
      clear hp hv hn hlt
      subst ek
      go_wp2_with fail
      exact bodyPost_ret (v := .tuple #[.slice av T.length cv, .int .i64 0]) (by simp [results, Tryz.results19, go_sem]) rfl ⟨_, rfl, F', by rw [HE9.out]; exact HP.out, HN9.out, by rw [HE9.out]; exact HV.out⟩
end
end Go.Proofs.YthnajpckhoomgaaGreat
