/- Texts Gna, Gs, Gb, Gc of this proof, in one. No conditions but on lengths. -/
import Derived.Test.YthnajpckhoomgaaGreatRows
import Derived.Test.YthnajpckhoomgaaGreatU36
import Derived.Test.YthnajpckhoomgaaGreatU48
import Derived.Test.YthnajpckhoomgaaGreatU49
import Derived.Test.YthnajpckhoomgaaGreatU50
import Derived.Test.YthnajpckhoomgaaGreatU51
import Derived.ArgAppend
import Derived.Below
import Derived.BigQuiet
import Derived.BigRegion
import Derived.Calls
import Derived.ChangeArms
import Derived.ChangeKeysEq
import Derived.ChangeMade
import Derived.ChangeOld
import Derived.Deep.Cut
import Derived.Deep.QuietTactic
import Derived.Deep.RegionLaw
import Derived.Deep.RegionWith
import Derived.Deep.Slices
import Derived.Laws.AppendOwnNone
import Derived.Laws.BitsLemmas
import Derived.Laws.BytesArg
import Derived.Laws.LoneSync
import Derived.Laws.OwnMore
import Derived.Laws.StructEq
import Derived.Lib.ConvBytes
import Derived.Lib.Hide
import Derived.Lib.QuietBelow
import Derived.LoopIn
import Derived.LoopTactic
import Derived.Maps.AppendAt
import Derived.Maps.OwnSet
import Derived.OpenShut
import Derived.Orders
import Derived.Outline
import Derived.OwnWalkIn
import Derived.ProofKit
import Derived.RangeFuncBox
import Derived.RangeFuncCalls
import Derived.RangeFuncLeaves
import Derived.RangeFuncNested
import Derived.Shelf.RegionOpen
import Derived.ShutString
import Derived.StillTail
import Derived.TacticsInMore
import Derived.WalkKit
import Derived.WalkSpells
import Derived.WideShapes
namespace Go.Proofs.YthnajpckhoomgaaGreat
set_option maxRecDepth 100000
set_option linter.unusedVariables false
open Go.RowKit
theorem goth_fix (r : RPt) (x1 y1 x2 y2 b3 b4 Q : Bool) (h1 : (r.be != 0) = x1) (h2 : ((r.l1 : Int) != 0) = y1) (h3 : (r.bn != 0) = x2) (h4 : ((r.l2 : Int) != 0) = y2) (h5 : ((r.l3 : Int) != 0) = b3) (h6 : (!eqK r.s r.d r.t r.n r.x 0 0 0 0 ⟨#[]⟩) = b4)
    (hQ : Q = true ↔ Imp9 (x1 || y1) (r.k = 1) ∧ Imp9 (x2 || y2) (r.k = 2) ∧ Imp9 b3 (r.k = 3) ∧ Imp9 b4 (r.k = 4)) (w : World) :
    Calls Tryz.prog 164 #[.agg #[.int .i64 r.k, .int .i64 r.be, .slice r.a1 r.l1 r.c1, .int .i64 r.bn, .slice r.a2 r.l2 r.c2, .slice r.a3 r.l3 r.c3, .int .i64 r.s, .int .i64 r.d, .int .i64 r.t, .int .i64 r.n, .string r.x]] w fun e w' => e = .returned (.bool Q) ∧ Below w.heap.size w w' := by
  cases x1 with
  | true =>
    cases x2 with
    | true => exact goth_0 r b3 b4 Q h1 h3 h5 h6 hQ w
    | false => exact goth_1 r y2 b3 b4 Q h1 h3 h4 h5 h6 hQ w
  | false =>
    cases x2 with
    | true => exact goth_2 r y1 b3 b4 Q h1 h2 h3 h5 h6 hQ w
    | false => exact goth_3 r y1 y2 b3 b4 Q h1 h2 h3 h4 h5 h6 hQ w
end Go.Proofs.YthnajpckhoomgaaGreat
namespace Go.Proofs.YthnajpckhoomgaaGreat
set_option maxRecDepth 100000
set_option linter.unusedVariables false
open Go.RowKit
/-- A part has nothing of other kinds than its own. -/
def Pt.Alone (p : Pt) : Prop := (p.noBe ∨ p.k = 1) ∧ (p.noBt ∨ p.k = 2) ∧ (p.noAk ∨ p.k = 3) ∧ (p.noPk ∨ p.k = 4)
instance (p : Pt) : Decidable p.Alone := by unfold Pt.Alone; infer_instance
theorem alone_k2 {p : Pt} (h : p.k = 2) : p.Ok ↔ BtOk p.bn p.os ∧ p.Alone := by rw [ok_k2 h]; unfold Pt.Alone; rw [h]; simp; exact ⟨fun ⟨a, b, c, d⟩ => ⟨b, a, c, d⟩, fun ⟨b, a, c, d⟩ => ⟨a, b, c, d⟩⟩
theorem alone_k3 {p : Pt} (h : p.k = 3) : p.Ok ↔ AksOk p.ks ∧ p.Alone := by rw [ok_k3 h]; unfold Pt.Alone; rw [h]; simp; exact ⟨fun ⟨a, b, c, d⟩ => ⟨c, a, b, d⟩, fun ⟨c, a, b, d⟩ => ⟨a, b, c, d⟩⟩
theorem goth_any (r : RPt) (p : Pt) (w : World) (h : r.Rd w p) : Calls Tryz.prog 164 #[.agg #[.int .i64 r.k, .int .i64 r.be, .slice r.a1 r.l1 r.c1, .int .i64 r.bn, .slice r.a2 r.l2 r.c2, .slice r.a3 r.l3 r.c3, .int .i64 r.s, .int .i64 r.d, .int .i64 r.t, .int .i64 r.n, .string r.x]] w fun e w' => e = .returned (.bool (decide p.Alone)) ∧ Below w.heap.size w w' := by
  refine goth_fix r _ _ _ _ _ _ (decide p.Alone) rfl rfl rfl rfl rfl rfl ?_ w
  rw [decide_eq_true_iff]
  unfold Pt.Alone Pt.noBe Pt.noBt Pt.noAk Pt.noPk Imp9
  have hx : (!eqK r.s r.d r.t r.n r.x 0 0 0 0 ⟨#[]⟩) = true ↔ ¬ (p.s = 0 ∧ p.d = 0 ∧ p.t = 0 ∧ p.n = 0 ∧ p.x = ⟨#[]⟩) := by
    rw [Bool.not_eq_true', Bool.eq_false_iff, ne_eq, eqk_iff, h.s, h.d, h.t, h.n, h.x]
    simp only [Prod.mk.injEq]
  rw [hx, h.k, h.be, h.bn, h.l1, h.l2, h.l3]
  simp only [Bool.or_eq_true, bne_iff_ne, ne_eq]
  refine Iff.symm ?_
  constructor
  · rintro ⟨a1, a2, a3, a4⟩
    refine ⟨?_, ?_, ?_, ?_⟩
    · by_cases hk : p.k = 1
      · exact .inr hk
      · refine .inl ⟨?_, ?_⟩
        · exact Decidable.byContradiction fun hh => hk (a1 (.inl hh))
        · exact Decidable.byContradiction fun hh => hk (a1 (.inr (by omega)))
    · by_cases hk : p.k = 2
      · exact .inr hk
      · refine .inl ⟨?_, ?_⟩
        · exact Decidable.byContradiction fun hh => hk (a2 (.inl hh))
        · exact Decidable.byContradiction fun hh => hk (a2 (.inr (by omega)))
    · by_cases hk : p.k = 3
      · exact .inr hk
      · exact .inl (Decidable.byContradiction fun hh => hk (a3 (by omega)))
    · by_cases hk : p.k = 4
      · exact .inr hk
      · exact .inl (Decidable.byContradiction fun hh => hk (a4 hh))
  · rintro ⟨a1, a2, a3, a4⟩
    refine ⟨fun hh => ?_, fun hh => ?_, fun hh => ?_, fun hh => ?_⟩
    · rcases a1 with a | a
      · rcases hh with hh | hh
        · exact absurd a.1 hh
        · have := a.2; omega
      · exact a
    · rcases a2 with a | a
      · rcases hh with hh | hh
        · exact absurd a.1 hh
        · have := a.2; omega
      · exact a
    · rcases a3 with a | a
      · omega
      · exact a
    · rcases a4 with a | a
      · exact absurd a hh
      · exact a
/-- Bytes of the call's own and an error are answered. -/
def RetS (w : World) (L : List Int) (K : Int) (e : Ending) (w' : World) : Prop := (∃ v, e = .returned (.tuple #[v, .int .i64 K]) ∧ w'.ownsRow w.heap.size 5 1 v L.length (L.map (Value.int .u8))) ∧ Below w.heap.size w w'
theorem rets_no {w w' : World} {e : Ending} (h : e = .returned (.tuple #[.slice none 0 0, .int .i64 1]) ∧ Below w.heap.size w w') : RetS w [] 1 e w' := ⟨⟨_, h.1, World.ownsRow_nil _ _ _ _⟩, h.2⟩
theorem RetS.below {w w' W : World} {L : List Int} {K : Int} {e : Ending} (h : RetS w L K e w') (hb : Below W.heap.size W w) : RetS W L K e w' := by
  obtain ⟨⟨v, h1, h2⟩, h3⟩ := h
  exact ⟨⟨v, h1, own_mono h2 hb.size⟩, hb.trans (h3.mono hb.size)⟩
def spL (p : Pt) : List Int := if p.Ok then p.bs else []
def spK (p : Pt) : Int := if p.Ok then 0 else 1
theorem pbytes_no9 (M : Int) (v : Value) (ys : List Ob) (w : World) (hy : Os w v ys) (hl : ys.length ≤ 3000) (h : ¬ BtOk M ys) : Calls Tryz.prog 193 #[.agg #[.int .i64 M, v]] w fun e w' => e = .returned (.tuple #[.slice none 0 0, .int .i64 1]) ∧ Below w.heap.size w w' := by
  obtain ⟨a, c, rfl⟩ := hy.form
  have cR := pcheck_any M _ ys (w.alloc (.cells #[.int .i64 M, .slice a ys.length c] 69)) (hy.alloc _) hl
  rw [btc, if_neg h] at cR
  clear h hy
  go_enter Tryz.func193, Tryz.ntmps193
  go_wp2_with (go_at_call 152; refine cR.mono ?_; rintro e w1 ⟨rfl, hb⟩; have HB : Hid (Below w.heap.size w w1) := ((Below.refl _ w).alloc (Nat.le_refl _) _).trans (hb.mono (by simp)); clear hb)
  go_ret2
  exact ⟨rfl, HB.out⟩
theorem gbt_any (M : Int) (v : Value) (ys : List Ob) (w : World) (hy : Os w v ys) (hl : ys.length ≤ 3000) : Calls Tryz.prog 193 #[.agg #[.int .i64 M, v]] w (RetS w (btBs M ys) (btc M ys)) := by
  unfold btBs btc
  by_cases h : BtOk M ys
  · rw [if_pos h, if_pos h]; exact (pbytes_own M v ys w hy h).mono fun _ _ ⟨r, h1, h2, h3⟩ => ⟨⟨r, h1, h2.1⟩, h3⟩
  · rw [if_neg h, if_neg h]; exact (pbytes_no9 M v ys w hy hl h).mono fun _ _ h => rets_no h
theorem gak_any (v : Value) (ys : List (Int × Int × Int × Int)) (w : World) (hy : As w v ys) (hl : ys.length ≤ 3000) : Calls Tryz.prog 195 #[v] w (RetS w (byA ys) (byE ys)) := by
  unfold byA byE
  by_cases h : AksOk ys
  · rw [if_pos h, if_pos h]; exact akbytes_ok v ys w hy h
  · rw [if_neg h, if_neg h]; exact (akbytes_no v ys w hy hl h).mono fun _ _ h => rets_no h
set_option maxHeartbeats 4000000 in
theorem gsp2 (b : Nat) (r : RPt) (p : Pt) (w : World) (ho : OwnT w b r) (h : r.Rd w p) (hl : PtFew p) : Calls Tryz.prog 192 #[.pointer (some ⟨b, 0, none⟩)] w (RetS w (btBs r.bn p.os) (btc r.bn p.os)) := by
  have RA := Lib.hid h
  have HL : Hid (PtFew p) := hl
  obtain ⟨⟨u0, u1, u2, u3, u4, u5, u6, u7, u8, u9, u10⟩, -⟩ := ho
  clear h hl
  go_enter Tryz.func192, Tryz.ntmps192
  go_wp2_with fail
  clear u0 u1 u2 u3 u4 u5 u6 u7 u8 u9 u10
  refine (gbt_any r.bn _ p.os _ RA.out.os (by have := HL.out.2.1; omega)).mono ?_
  rintro e w1 ⟨⟨v9, rfl, hB⟩, hb⟩
  obtain ⟨a9, c9, rfl⟩ := gown_form hB
  have HB1 := Lib.hid hB
  have HB2 := Lib.hid hb
  clear hB hb
  go_wp2_with fail
  go_ret2
  exact ⟨⟨_, rfl, HB1.out⟩, HB2.out⟩
set_option maxHeartbeats 4000000 in
theorem gsp3 (b : Nat) (r : RPt) (p : Pt) (w : World) (ho : OwnT w b r) (h : r.Rd w p) (hl : PtFew p) : Calls Tryz.prog 194 #[.pointer (some ⟨b, 0, none⟩)] w (RetS w (byA p.ks) (byE p.ks)) := by
  have RA := Lib.hid h
  have HL : Hid (PtFew p) := hl
  obtain ⟨⟨u0, u1, u2, u3, u4, u5, u6, u7, u8, u9, u10⟩, -⟩ := ho
  clear h hl
  go_enter Tryz.func194, Tryz.ntmps194
  go_wp2_with fail
  clear u0 u1 u2 u3 u4 u5 u6 u7 u8 u9 u10
  refine (gak_any _ p.ks _ RA.out.ks (by have := HL.out.2.2.1; omega)).mono ?_
  rintro e w1 ⟨⟨v9, rfl, hB⟩, hb⟩
  obtain ⟨a9, c9, rfl⟩ := gown_form hB
  have HB1 := Lib.hid hB
  have HB2 := Lib.hid hb
  clear hB hb
  go_wp2_with fail
  go_ret2
  exact ⟨⟨_, rfl, HB1.out⟩, HB2.out⟩
theorem heap_last (W : World) (O : Obj) (b : Nat) (hb : b = W.heap.size) : (W.alloc O).heap[b]? = some O := by
  subst hb
  simp [World.alloc, -World.alloc_eq]
theorem ok_alone {p : Pt} (h : p.Ok) : p.Alone := by
  rcases h with ⟨hk, _, a, b, c⟩ | ⟨hk, a, _, b, c⟩ | ⟨hk, a, b, _, c⟩ | ⟨hk, a, b, c, _⟩
  · exact ⟨.inr hk, .inl a, .inl b, .inl c⟩
  · exact ⟨.inl a, .inr hk, .inl b, .inl c⟩
  · exact ⟨.inl a, .inl b, .inr hk, .inl c⟩
  · exact ⟨.inl a, .inl b, .inl c, .inr hk⟩
theorem rets_sp {w w' : World} {p : Pt} (h : ¬ p.Ok) (hb : Below w.heap.size w w') : RetS w (spL p) (spK p) (.returned (.tuple #[.slice none 0 0, .int .i64 1])) w' := by
  unfold spL spK
  rw [if_neg h, if_neg h]
  exact rets_no ⟨rfl, hb⟩
theorem sp_k2 {w : World} {r : RPt} {p : Pt} (h : r.Rd w p) (hk : p.k = 2) (ha : p.Alone) : spL p = btBs r.bn p.os ∧ spK p = btc r.bn p.os := by
  have e := alone_k2 hk
  unfold spL spK btBs btc
  rw [h.bn]
  by_cases hb : BtOk p.bn p.os
  · have h9 : p.Ok := e.2 ⟨hb, ha⟩
    rw [if_pos h9, if_pos hb, if_pos h9, if_pos hb, bs_k2 hk]; exact ⟨rfl, rfl⟩
  · have h9 : ¬ p.Ok := fun h => hb (e.1 h).1
    rw [if_neg h9, if_neg hb, if_neg h9, if_neg hb]; exact ⟨rfl, rfl⟩
theorem sp_k3 {w : World} {r : RPt} {p : Pt} (_ : r.Rd w p) (hk : p.k = 3) (ha : p.Alone) : spL p = byA p.ks ∧ spK p = byE p.ks := by
  have e := alone_k3 hk
  unfold spL spK byA byE
  by_cases hb : AksOk p.ks
  · have h9 : p.Ok := e.2 ⟨hb, ha⟩
    rw [if_pos h9, if_pos hb, if_pos h9, if_pos hb, bs_k3 hk]; exact ⟨rfl, rfl⟩
  · have h9 : ¬ p.Ok := fun h => hb (e.1 h).1
    rw [if_neg h9, if_neg hb, if_neg h9, if_neg hb]; exact ⟨rfl, rfl⟩
theorem underM9 : Tryz.prog.underlying 243 = some (.map 3 241) := by kernel_rfl
theorem underI9 : Tryz.prog.underlying 3 = some (.int .i64) := by kernel_rfl
theorem zeroF9 (w : World) : (zeroValue 241).run Tryz.prog w = .ok .nilFunc w := by kernel_rfl
set_option maxHeartbeats 4000000 in
theorem gspellers (r : RPt) (w : World) : Calls Tryz.prog 163 #[.agg #[.int .i64 r.k, .int .i64 r.be, .slice r.a1 r.l1 r.c1, .int .i64 r.bn, .slice r.a2 r.l2 r.c2, .slice r.a3 r.l3 r.c3, .int .i64 r.s, .int .i64 r.d, .int .i64 r.t, .int .i64 r.n, .string r.x]] w fun e w' => e = .returned (.map (some (w.heap.size + 1))) ∧ w' = (w.alloc (.cells #[.int .i64 r.k, .int .i64 r.be, .slice r.a1 r.l1 r.c1, .int .i64 r.bn, .slice r.a2 r.l2 r.c2, .slice r.a3 r.l3 r.c3, .int .i64 r.s, .int .i64 r.d, .int .i64 r.t, .int .i64 r.n, .string r.x] 77)).alloc (.map (ent4 (.func (Fn.func 190) #[] #[.pointer (some ⟨w.heap.size, 0, none⟩)]) (.func (Fn.func 192) #[] #[.pointer (some ⟨w.heap.size, 0, none⟩)]) (.func (Fn.func 194) #[] #[.pointer (some ⟨w.heap.size, 0, none⟩)]) (.func (Fn.func 196) #[] #[.pointer (some ⟨w.heap.size, 0, none⟩)])) 4) := by
  have hmm := @run_makeMap Tryz.prog
  have hs : w.heap.size + 1 = (w.alloc (.cells #[.int .i64 r.k, .int .i64 r.be, .slice r.a1 r.l1 r.c1, .int .i64 r.bn, .slice r.a2 r.l2 r.c2, .slice r.a3 r.l3 r.c3, .int .i64 r.s, .int .i64 r.d, .int .i64 r.t, .int .i64 r.n, .string r.x] 77)).heap.size := by simp
  have u1 := run_upd9 (P := Tryz.prog) underM9 underI9 (w.alloc (.cells #[.int .i64 r.k, .int .i64 r.be, .slice r.a1 r.l1 r.c1, .int .i64 r.bn, .slice r.a2 r.l2 r.c2, .slice r.a3 r.l3 r.c3, .int .i64 r.s, .int .i64 r.d, .int .i64 r.t, .int .i64 r.n, .string r.x] 77)) #[] #[⟨.int .i64 1, (.func (Fn.func 190) #[] #[.pointer (some ⟨w.heap.size, 0, none⟩)]), 0⟩] 0 1 (.func (Fn.func 190) #[] #[.pointer (some ⟨w.heap.size, 0, none⟩)]) (w.heap.size + 1) hs (by rfl) rfl
  have u2 := run_upd9 (P := Tryz.prog) underM9 underI9 (w.alloc (.cells #[.int .i64 r.k, .int .i64 r.be, .slice r.a1 r.l1 r.c1, .int .i64 r.bn, .slice r.a2 r.l2 r.c2, .slice r.a3 r.l3 r.c3, .int .i64 r.s, .int .i64 r.d, .int .i64 r.t, .int .i64 r.n, .string r.x] 77)) #[⟨.int .i64 1, (.func (Fn.func 190) #[] #[.pointer (some ⟨w.heap.size, 0, none⟩)]), 0⟩] #[⟨.int .i64 1, (.func (Fn.func 190) #[] #[.pointer (some ⟨w.heap.size, 0, none⟩)]), 0⟩, ⟨.int .i64 2, (.func (Fn.func 192) #[] #[.pointer (some ⟨w.heap.size, 0, none⟩)]), 1⟩] 1 2 (.func (Fn.func 192) #[] #[.pointer (some ⟨w.heap.size, 0, none⟩)]) (w.heap.size + 1) hs (by simp [Instr.findNow, Instr.sameNow]) rfl
  have u3 := run_upd9 (P := Tryz.prog) underM9 underI9 (w.alloc (.cells #[.int .i64 r.k, .int .i64 r.be, .slice r.a1 r.l1 r.c1, .int .i64 r.bn, .slice r.a2 r.l2 r.c2, .slice r.a3 r.l3 r.c3, .int .i64 r.s, .int .i64 r.d, .int .i64 r.t, .int .i64 r.n, .string r.x] 77)) #[⟨.int .i64 1, (.func (Fn.func 190) #[] #[.pointer (some ⟨w.heap.size, 0, none⟩)]), 0⟩, ⟨.int .i64 2, (.func (Fn.func 192) #[] #[.pointer (some ⟨w.heap.size, 0, none⟩)]), 1⟩] #[⟨.int .i64 1, (.func (Fn.func 190) #[] #[.pointer (some ⟨w.heap.size, 0, none⟩)]), 0⟩, ⟨.int .i64 2, (.func (Fn.func 192) #[] #[.pointer (some ⟨w.heap.size, 0, none⟩)]), 1⟩, ⟨.int .i64 3, (.func (Fn.func 194) #[] #[.pointer (some ⟨w.heap.size, 0, none⟩)]), 2⟩] 2 3 (.func (Fn.func 194) #[] #[.pointer (some ⟨w.heap.size, 0, none⟩)]) (w.heap.size + 1) hs (by simp [Instr.findNow, Instr.sameNow]) rfl
  have u4 := run_upd9 (P := Tryz.prog) underM9 underI9 (w.alloc (.cells #[.int .i64 r.k, .int .i64 r.be, .slice r.a1 r.l1 r.c1, .int .i64 r.bn, .slice r.a2 r.l2 r.c2, .slice r.a3 r.l3 r.c3, .int .i64 r.s, .int .i64 r.d, .int .i64 r.t, .int .i64 r.n, .string r.x] 77)) #[⟨.int .i64 1, (.func (Fn.func 190) #[] #[.pointer (some ⟨w.heap.size, 0, none⟩)]), 0⟩, ⟨.int .i64 2, (.func (Fn.func 192) #[] #[.pointer (some ⟨w.heap.size, 0, none⟩)]), 1⟩, ⟨.int .i64 3, (.func (Fn.func 194) #[] #[.pointer (some ⟨w.heap.size, 0, none⟩)]), 2⟩] (ent4 (.func (Fn.func 190) #[] #[.pointer (some ⟨w.heap.size, 0, none⟩)]) (.func (Fn.func 192) #[] #[.pointer (some ⟨w.heap.size, 0, none⟩)]) (.func (Fn.func 194) #[] #[.pointer (some ⟨w.heap.size, 0, none⟩)]) (.func (Fn.func 196) #[] #[.pointer (some ⟨w.heap.size, 0, none⟩)])) 3 4 (.func (Fn.func 196) #[] #[.pointer (some ⟨w.heap.size, 0, none⟩)]) (w.heap.size + 1) hs (by simp [Instr.findNow, Instr.sameNow]) rfl
  simp only [Nat.zero_add, Nat.reduceAdd] at u1 u2 u3 u4
  clear hs
  go_enter Tryz.func163, Tryz.ntmps163
  go_wp2_with fail
  go_ret
  exact ⟨rfl, rfl⟩
set_option maxHeartbeats 16000000 in
theorem gspell2 (r : RPt) (p : Pt) (w : World) (h : r.Rd w p) (hl : PtFew p) (hk : p.k = 2) : Calls Tryz.prog 132 #[.agg #[.int .i64 r.k, .int .i64 r.be, .slice r.a1 r.l1 r.c1, .int .i64 r.bn, .slice r.a2 r.l2 r.c2, .slice r.a3 r.l3 r.c3, .int .i64 r.s, .int .i64 r.d, .int .i64 r.t, .int .i64 r.n, .string r.x]] w (RetS w (spL p) (spK p)) := by
  have RA := Lib.hid h
  have HL : Hid (PtFew p) := hl
  have HK := Lib.hid hk
  have hL : (Instr.lookup 243 (.map (some (w.heap.size + 1 + 1))) (.int .i64 r.k) true).run Tryz.prog ((((w.alloc (.cells #[.int .i64 r.k, .int .i64 r.be, .slice r.a1 r.l1 r.c1, .int .i64 r.bn, .slice r.a2 r.l2 r.c2, .slice r.a3 r.l3 r.c3, .int .i64 r.s, .int .i64 r.d, .int .i64 r.t, .int .i64 r.n, .string r.x] 77)).alloc (.cells #[.int .i64 r.k, .int .i64 r.be, .slice r.a1 r.l1 r.c1, .int .i64 r.bn, .slice r.a2 r.l2 r.c2, .slice r.a3 r.l3 r.c3, .int .i64 r.s, .int .i64 r.d, .int .i64 r.t, .int .i64 r.n, .string r.x] 77)).alloc (.map (ent4 (.func (Fn.func 190) #[] #[.pointer (some ⟨(w.heap.size + 1), 0, none⟩)]) (.func (Fn.func 192) #[] #[.pointer (some ⟨(w.heap.size + 1), 0, none⟩)]) (.func (Fn.func 194) #[] #[.pointer (some ⟨(w.heap.size + 1), 0, none⟩)]) (.func (Fn.func 196) #[] #[.pointer (some ⟨(w.heap.size + 1), 0, none⟩)])) 4)).drew) = .ok (.tuple #[(.func (Fn.func 192) #[] #[.pointer (some ⟨(w.heap.size + 1), 0, none⟩)]), .bool true]) ((((w.alloc (.cells #[.int .i64 r.k, .int .i64 r.be, .slice r.a1 r.l1 r.c1, .int .i64 r.bn, .slice r.a2 r.l2 r.c2, .slice r.a3 r.l3 r.c3, .int .i64 r.s, .int .i64 r.d, .int .i64 r.t, .int .i64 r.n, .string r.x] 77)).alloc (.cells #[.int .i64 r.k, .int .i64 r.be, .slice r.a1 r.l1 r.c1, .int .i64 r.bn, .slice r.a2 r.l2 r.c2, .slice r.a3 r.l3 r.c3, .int .i64 r.s, .int .i64 r.d, .int .i64 r.t, .int .i64 r.n, .string r.x] 77)).alloc (.map (ent4 (.func (Fn.func 190) #[] #[.pointer (some ⟨(w.heap.size + 1), 0, none⟩)]) (.func (Fn.func 192) #[] #[.pointer (some ⟨(w.heap.size + 1), 0, none⟩)]) (.func (Fn.func 194) #[] #[.pointer (some ⟨(w.heap.size + 1), 0, none⟩)]) (.func (Fn.func 196) #[] #[.pointer (some ⟨(w.heap.size + 1), 0, none⟩)])) 4)).drew) := run_look9 underM9 underI9 _ (ent4 (.func (Fn.func 190) #[] #[.pointer (some ⟨(w.heap.size + 1), 0, none⟩)]) (.func (Fn.func 192) #[] #[.pointer (some ⟨(w.heap.size + 1), 0, none⟩)]) (.func (Fn.func 194) #[] #[.pointer (some ⟨(w.heap.size + 1), 0, none⟩)]) (.func (Fn.func 196) #[] #[.pointer (some ⟨(w.heap.size + 1), 0, none⟩)])) 4 r.k _ (w.heap.size + 1 + 1) 1 (show ((((w.alloc (.cells #[.int .i64 r.k, .int .i64 r.be, .slice r.a1 r.l1 r.c1, .int .i64 r.bn, .slice r.a2 r.l2 r.c2, .slice r.a3 r.l3 r.c3, .int .i64 r.s, .int .i64 r.d, .int .i64 r.t, .int .i64 r.n, .string r.x] 77)).alloc (.cells #[.int .i64 r.k, .int .i64 r.be, .slice r.a1 r.l1 r.c1, .int .i64 r.bn, .slice r.a2 r.l2 r.c2, .slice r.a3 r.l3 r.c3, .int .i64 r.s, .int .i64 r.d, .int .i64 r.t, .int .i64 r.n, .string r.x] 77)).alloc (.map (ent4 (.func (Fn.func 190) #[] #[.pointer (some ⟨(w.heap.size + 1), 0, none⟩)]) (.func (Fn.func 192) #[] #[.pointer (some ⟨(w.heap.size + 1), 0, none⟩)]) (.func (Fn.func 194) #[] #[.pointer (some ⟨(w.heap.size + 1), 0, none⟩)]) (.func (Fn.func 196) #[] #[.pointer (some ⟨(w.heap.size + 1), 0, none⟩)])) 4))).heap[w.heap.size + 1 + 1]? = some _ from heap_last _ _ _ (by simp)) (by rw [h.k, hk]; exact find2 _ _ _ _)
  have OA := Lib.hid (ownt_alloc w r 77 w.heap.size rfl)
  have OB : Hid (OwnT ((((w.alloc (.cells #[.int .i64 r.k, .int .i64 r.be, .slice r.a1 r.l1 r.c1, .int .i64 r.bn, .slice r.a2 r.l2 r.c2, .slice r.a3 r.l3 r.c3, .int .i64 r.s, .int .i64 r.d, .int .i64 r.t, .int .i64 r.n, .string r.x] 77)).alloc (.cells #[.int .i64 r.k, .int .i64 r.be, .slice r.a1 r.l1 r.c1, .int .i64 r.bn, .slice r.a2 r.l2 r.c2, .slice r.a3 r.l3 r.c3, .int .i64 r.s, .int .i64 r.d, .int .i64 r.t, .int .i64 r.n, .string r.x] 77)).alloc (.map (ent4 (.func (Fn.func 190) #[] #[.pointer (some ⟨(w.heap.size + 1), 0, none⟩)]) (.func (Fn.func 192) #[] #[.pointer (some ⟨(w.heap.size + 1), 0, none⟩)]) (.func (Fn.func 194) #[] #[.pointer (some ⟨(w.heap.size + 1), 0, none⟩)]) (.func (Fn.func 196) #[] #[.pointer (some ⟨(w.heap.size + 1), 0, none⟩)])) 4)).drew) (w.heap.size + 1) r) := show OwnT ((((w.alloc (.cells #[.int .i64 r.k, .int .i64 r.be, .slice r.a1 r.l1 r.c1, .int .i64 r.bn, .slice r.a2 r.l2 r.c2, .slice r.a3 r.l3 r.c3, .int .i64 r.s, .int .i64 r.d, .int .i64 r.t, .int .i64 r.n, .string r.x] 77)).alloc (.cells #[.int .i64 r.k, .int .i64 r.be, .slice r.a1 r.l1 r.c1, .int .i64 r.bn, .slice r.a2 r.l2 r.c2, .slice r.a3 r.l3 r.c3, .int .i64 r.s, .int .i64 r.d, .int .i64 r.t, .int .i64 r.n, .string r.x] 77)).alloc (.map (ent4 (.func (Fn.func 190) #[] #[.pointer (some ⟨(w.heap.size + 1), 0, none⟩)]) (.func (Fn.func 192) #[] #[.pointer (some ⟨(w.heap.size + 1), 0, none⟩)]) (.func (Fn.func 194) #[] #[.pointer (some ⟨(w.heap.size + 1), 0, none⟩)]) (.func (Fn.func 196) #[] #[.pointer (some ⟨(w.heap.size + 1), 0, none⟩)])) 4))) (w.heap.size + 1) r from (ownt_alloc (w.alloc (.cells #[.int .i64 r.k, .int .i64 r.be, .slice r.a1 r.l1 r.c1, .int .i64 r.bn, .slice r.a2 r.l2 r.c2, .slice r.a3 r.l3 r.c3, .int .i64 r.s, .int .i64 r.d, .int .i64 r.t, .int .i64 r.n, .string r.x] 77)) r 77 (w.heap.size + 1) (by simp)).below ((Below.refl _ _).alloc (Nat.le_refl _) _)
  have OA2 : Hid (OwnT ((((w.alloc (.cells #[.int .i64 r.k, .int .i64 r.be, .slice r.a1 r.l1 r.c1, .int .i64 r.bn, .slice r.a2 r.l2 r.c2, .slice r.a3 r.l3 r.c3, .int .i64 r.s, .int .i64 r.d, .int .i64 r.t, .int .i64 r.n, .string r.x] 77)).alloc (.cells #[.int .i64 r.k, .int .i64 r.be, .slice r.a1 r.l1 r.c1, .int .i64 r.bn, .slice r.a2 r.l2 r.c2, .slice r.a3 r.l3 r.c3, .int .i64 r.s, .int .i64 r.d, .int .i64 r.t, .int .i64 r.n, .string r.x] 77)).alloc (.map (ent4 (.func (Fn.func 190) #[] #[.pointer (some ⟨(w.heap.size + 1), 0, none⟩)]) (.func (Fn.func 192) #[] #[.pointer (some ⟨(w.heap.size + 1), 0, none⟩)]) (.func (Fn.func 194) #[] #[.pointer (some ⟨(w.heap.size + 1), 0, none⟩)]) (.func (Fn.func 196) #[] #[.pointer (some ⟨(w.heap.size + 1), 0, none⟩)])) 4)).drew) w.heap.size r) := show OwnT ((((w.alloc (.cells #[.int .i64 r.k, .int .i64 r.be, .slice r.a1 r.l1 r.c1, .int .i64 r.bn, .slice r.a2 r.l2 r.c2, .slice r.a3 r.l3 r.c3, .int .i64 r.s, .int .i64 r.d, .int .i64 r.t, .int .i64 r.n, .string r.x] 77)).alloc (.cells #[.int .i64 r.k, .int .i64 r.be, .slice r.a1 r.l1 r.c1, .int .i64 r.bn, .slice r.a2 r.l2 r.c2, .slice r.a3 r.l3 r.c3, .int .i64 r.s, .int .i64 r.d, .int .i64 r.t, .int .i64 r.n, .string r.x] 77)).alloc (.map (ent4 (.func (Fn.func 190) #[] #[.pointer (some ⟨(w.heap.size + 1), 0, none⟩)]) (.func (Fn.func 192) #[] #[.pointer (some ⟨(w.heap.size + 1), 0, none⟩)]) (.func (Fn.func 194) #[] #[.pointer (some ⟨(w.heap.size + 1), 0, none⟩)]) (.func (Fn.func 196) #[] #[.pointer (some ⟨(w.heap.size + 1), 0, none⟩)])) 4))) w.heap.size r from (OA.out.below ((Below.refl _ _).alloc (Nat.le_refl _) _)).below ((Below.refl _ _).alloc (Nat.le_refl _) _)
  have HB2 : Hid (Below w.heap.size w ((((w.alloc (.cells #[.int .i64 r.k, .int .i64 r.be, .slice r.a1 r.l1 r.c1, .int .i64 r.bn, .slice r.a2 r.l2 r.c2, .slice r.a3 r.l3 r.c3, .int .i64 r.s, .int .i64 r.d, .int .i64 r.t, .int .i64 r.n, .string r.x] 77)).alloc (.cells #[.int .i64 r.k, .int .i64 r.be, .slice r.a1 r.l1 r.c1, .int .i64 r.bn, .slice r.a2 r.l2 r.c2, .slice r.a3 r.l3 r.c3, .int .i64 r.s, .int .i64 r.d, .int .i64 r.t, .int .i64 r.n, .string r.x] 77)).alloc (.map (ent4 (.func (Fn.func 190) #[] #[.pointer (some ⟨(w.heap.size + 1), 0, none⟩)]) (.func (Fn.func 192) #[] #[.pointer (some ⟨(w.heap.size + 1), 0, none⟩)]) (.func (Fn.func 194) #[] #[.pointer (some ⟨(w.heap.size + 1), 0, none⟩)]) (.func (Fn.func 196) #[] #[.pointer (some ⟨(w.heap.size + 1), 0, none⟩)])) 4)).drew)) := ((((Below.refl _ w).alloc (Nat.le_refl _) _).alloc (by simp) _).alloc (by simp; omega) _).drew
  have RB2 := Lib.hid (h.below HB2.out)
  clear h hl hk
  have cS := gspellers r (w.alloc (.cells #[.int .i64 r.k, .int .i64 r.be, .slice r.a1 r.l1 r.c1, .int .i64 r.bn, .slice r.a2 r.l2 r.c2, .slice r.a3 r.l3 r.c3, .int .i64 r.s, .int .i64 r.d, .int .i64 r.t, .int .i64 r.n, .string r.x] 77)).drew
  have hs1 : (w.alloc (.cells #[.int .i64 r.k, .int .i64 r.be, .slice r.a1 r.l1 r.c1, .int .i64 r.bn, .slice r.a2 r.l2 r.c2, .slice r.a3 r.l3 r.c3, .int .i64 r.s, .int .i64 r.d, .int .i64 r.t, .int .i64 r.n, .string r.x] 77)).drew.heap.size = w.heap.size + 1 := by simp
  rw [hs1] at cS
  clear hs1
  obtain ⟨⟨u0, u1, u2, u3, u4, u5, u6, u7, u8, u9, u10⟩, -⟩ := OA.out
  go_enter Tryz.func132, Tryz.ntmps132
  go_wp2_with fail
  go_region_with (go_at_call 163; refine cS.mono ?_; rintro e w9 ⟨rfl, rfl⟩; clear u0 u1 u2 u3 u4 u5 u6 u7 u8 u9 u10; obtain ⟨⟨u0, u1, u2, u3, u4, u5, u6, u7, u8, u9, u10⟩, -⟩ := OA2.out)
  all_goals
    go_wp2_with fail
    clear hL cS u0 u1 u2 u3 u4 u5 u6 u7 u8 u9 u10
    generalize ((((w.alloc (.cells #[.int .i64 r.k, .int .i64 r.be, .slice r.a1 r.l1 r.c1, .int .i64 r.bn, .slice r.a2 r.l2 r.c2, .slice r.a3 r.l3 r.c3, .int .i64 r.s, .int .i64 r.d, .int .i64 r.t, .int .i64 r.n, .string r.x] 77)).alloc (.cells #[.int .i64 r.k, .int .i64 r.be, .slice r.a1 r.l1 r.c1, .int .i64 r.bn, .slice r.a2 r.l2 r.c2, .slice r.a3 r.l3 r.c3, .int .i64 r.s, .int .i64 r.d, .int .i64 r.t, .int .i64 r.n, .string r.x] 77)).alloc (.map (ent4 (.func (Fn.func 190) #[] #[.pointer (some ⟨(w.heap.size + 1), 0, none⟩)]) (.func (Fn.func 192) #[] #[.pointer (some ⟨(w.heap.size + 1), 0, none⟩)]) (.func (Fn.func 194) #[] #[.pointer (some ⟨(w.heap.size + 1), 0, none⟩)]) (.func (Fn.func 196) #[] #[.pointer (some ⟨(w.heap.size + 1), 0, none⟩)])) 4)).drew) = V at *
    refine (goth_any r p _ RB2.out).mono ?_
    rintro e V1 ⟨rfl, hb⟩
    have OB3 := Lib.hid (OB.out.below hb)
    have RB3 := Lib.hid (RB2.out.below hb)
    have HB3 := Lib.hid (HB2.out.trans (hb.mono HB2.out.size))
    clear hb
    by_cases hal : p.Alone
    · rw [decide_eq_true hal]
      have HE := Lib.hid (sp_k2 RA.out HK.out hal)
      clear hal
      go_wp2_with fail
      refine (gsp2 (w.heap.size + 1) r p V1 OB3.out RB3.out HL.out).mono ?_
      rintro e V2 ⟨⟨v9, rfl, ho⟩, hb⟩
      obtain ⟨a9, c9, rfl⟩ := gown_form ho
      have HO := Lib.hid (own_mono ho HB3.out.size)
      have HB4 := Lib.hid (HB3.out.trans (hb.mono HB3.out.size))
      clear ho hb
      go_wp2_with fail
      go_ret2
      rw [HE.out.1, HE.out.2]
      exact ⟨⟨_, rfl, HO.out⟩, HB4.out⟩
    · rw [decide_eq_false hal]
      have HN : Hid (¬ p.Ok) := fun h => hal (ok_alone h)
      clear hal
      go_wp2_with fail
      go_ret2
      exact rets_sp HN.out HB3.out
set_option maxHeartbeats 16000000 in
theorem gspell3 (r : RPt) (p : Pt) (w : World) (h : r.Rd w p) (hl : PtFew p) (hk : p.k = 3) : Calls Tryz.prog 132 #[.agg #[.int .i64 r.k, .int .i64 r.be, .slice r.a1 r.l1 r.c1, .int .i64 r.bn, .slice r.a2 r.l2 r.c2, .slice r.a3 r.l3 r.c3, .int .i64 r.s, .int .i64 r.d, .int .i64 r.t, .int .i64 r.n, .string r.x]] w (RetS w (spL p) (spK p)) := by
  have RA := Lib.hid h
  have HL : Hid (PtFew p) := hl
  have HK := Lib.hid hk
  have hL : (Instr.lookup 243 (.map (some (w.heap.size + 1 + 1))) (.int .i64 r.k) true).run Tryz.prog ((((w.alloc (.cells #[.int .i64 r.k, .int .i64 r.be, .slice r.a1 r.l1 r.c1, .int .i64 r.bn, .slice r.a2 r.l2 r.c2, .slice r.a3 r.l3 r.c3, .int .i64 r.s, .int .i64 r.d, .int .i64 r.t, .int .i64 r.n, .string r.x] 77)).alloc (.cells #[.int .i64 r.k, .int .i64 r.be, .slice r.a1 r.l1 r.c1, .int .i64 r.bn, .slice r.a2 r.l2 r.c2, .slice r.a3 r.l3 r.c3, .int .i64 r.s, .int .i64 r.d, .int .i64 r.t, .int .i64 r.n, .string r.x] 77)).alloc (.map (ent4 (.func (Fn.func 190) #[] #[.pointer (some ⟨(w.heap.size + 1), 0, none⟩)]) (.func (Fn.func 192) #[] #[.pointer (some ⟨(w.heap.size + 1), 0, none⟩)]) (.func (Fn.func 194) #[] #[.pointer (some ⟨(w.heap.size + 1), 0, none⟩)]) (.func (Fn.func 196) #[] #[.pointer (some ⟨(w.heap.size + 1), 0, none⟩)])) 4)).drew) = .ok (.tuple #[(.func (Fn.func 194) #[] #[.pointer (some ⟨(w.heap.size + 1), 0, none⟩)]), .bool true]) ((((w.alloc (.cells #[.int .i64 r.k, .int .i64 r.be, .slice r.a1 r.l1 r.c1, .int .i64 r.bn, .slice r.a2 r.l2 r.c2, .slice r.a3 r.l3 r.c3, .int .i64 r.s, .int .i64 r.d, .int .i64 r.t, .int .i64 r.n, .string r.x] 77)).alloc (.cells #[.int .i64 r.k, .int .i64 r.be, .slice r.a1 r.l1 r.c1, .int .i64 r.bn, .slice r.a2 r.l2 r.c2, .slice r.a3 r.l3 r.c3, .int .i64 r.s, .int .i64 r.d, .int .i64 r.t, .int .i64 r.n, .string r.x] 77)).alloc (.map (ent4 (.func (Fn.func 190) #[] #[.pointer (some ⟨(w.heap.size + 1), 0, none⟩)]) (.func (Fn.func 192) #[] #[.pointer (some ⟨(w.heap.size + 1), 0, none⟩)]) (.func (Fn.func 194) #[] #[.pointer (some ⟨(w.heap.size + 1), 0, none⟩)]) (.func (Fn.func 196) #[] #[.pointer (some ⟨(w.heap.size + 1), 0, none⟩)])) 4)).drew) := run_look9 underM9 underI9 _ (ent4 (.func (Fn.func 190) #[] #[.pointer (some ⟨(w.heap.size + 1), 0, none⟩)]) (.func (Fn.func 192) #[] #[.pointer (some ⟨(w.heap.size + 1), 0, none⟩)]) (.func (Fn.func 194) #[] #[.pointer (some ⟨(w.heap.size + 1), 0, none⟩)]) (.func (Fn.func 196) #[] #[.pointer (some ⟨(w.heap.size + 1), 0, none⟩)])) 4 r.k _ (w.heap.size + 1 + 1) 2 (show ((((w.alloc (.cells #[.int .i64 r.k, .int .i64 r.be, .slice r.a1 r.l1 r.c1, .int .i64 r.bn, .slice r.a2 r.l2 r.c2, .slice r.a3 r.l3 r.c3, .int .i64 r.s, .int .i64 r.d, .int .i64 r.t, .int .i64 r.n, .string r.x] 77)).alloc (.cells #[.int .i64 r.k, .int .i64 r.be, .slice r.a1 r.l1 r.c1, .int .i64 r.bn, .slice r.a2 r.l2 r.c2, .slice r.a3 r.l3 r.c3, .int .i64 r.s, .int .i64 r.d, .int .i64 r.t, .int .i64 r.n, .string r.x] 77)).alloc (.map (ent4 (.func (Fn.func 190) #[] #[.pointer (some ⟨(w.heap.size + 1), 0, none⟩)]) (.func (Fn.func 192) #[] #[.pointer (some ⟨(w.heap.size + 1), 0, none⟩)]) (.func (Fn.func 194) #[] #[.pointer (some ⟨(w.heap.size + 1), 0, none⟩)]) (.func (Fn.func 196) #[] #[.pointer (some ⟨(w.heap.size + 1), 0, none⟩)])) 4))).heap[w.heap.size + 1 + 1]? = some _ from heap_last _ _ _ (by simp)) (by rw [h.k, hk]; exact find3 _ _ _ _)
  have OA := Lib.hid (ownt_alloc w r 77 w.heap.size rfl)
  have OB : Hid (OwnT ((((w.alloc (.cells #[.int .i64 r.k, .int .i64 r.be, .slice r.a1 r.l1 r.c1, .int .i64 r.bn, .slice r.a2 r.l2 r.c2, .slice r.a3 r.l3 r.c3, .int .i64 r.s, .int .i64 r.d, .int .i64 r.t, .int .i64 r.n, .string r.x] 77)).alloc (.cells #[.int .i64 r.k, .int .i64 r.be, .slice r.a1 r.l1 r.c1, .int .i64 r.bn, .slice r.a2 r.l2 r.c2, .slice r.a3 r.l3 r.c3, .int .i64 r.s, .int .i64 r.d, .int .i64 r.t, .int .i64 r.n, .string r.x] 77)).alloc (.map (ent4 (.func (Fn.func 190) #[] #[.pointer (some ⟨(w.heap.size + 1), 0, none⟩)]) (.func (Fn.func 192) #[] #[.pointer (some ⟨(w.heap.size + 1), 0, none⟩)]) (.func (Fn.func 194) #[] #[.pointer (some ⟨(w.heap.size + 1), 0, none⟩)]) (.func (Fn.func 196) #[] #[.pointer (some ⟨(w.heap.size + 1), 0, none⟩)])) 4)).drew) (w.heap.size + 1) r) := show OwnT ((((w.alloc (.cells #[.int .i64 r.k, .int .i64 r.be, .slice r.a1 r.l1 r.c1, .int .i64 r.bn, .slice r.a2 r.l2 r.c2, .slice r.a3 r.l3 r.c3, .int .i64 r.s, .int .i64 r.d, .int .i64 r.t, .int .i64 r.n, .string r.x] 77)).alloc (.cells #[.int .i64 r.k, .int .i64 r.be, .slice r.a1 r.l1 r.c1, .int .i64 r.bn, .slice r.a2 r.l2 r.c2, .slice r.a3 r.l3 r.c3, .int .i64 r.s, .int .i64 r.d, .int .i64 r.t, .int .i64 r.n, .string r.x] 77)).alloc (.map (ent4 (.func (Fn.func 190) #[] #[.pointer (some ⟨(w.heap.size + 1), 0, none⟩)]) (.func (Fn.func 192) #[] #[.pointer (some ⟨(w.heap.size + 1), 0, none⟩)]) (.func (Fn.func 194) #[] #[.pointer (some ⟨(w.heap.size + 1), 0, none⟩)]) (.func (Fn.func 196) #[] #[.pointer (some ⟨(w.heap.size + 1), 0, none⟩)])) 4))) (w.heap.size + 1) r from (ownt_alloc (w.alloc (.cells #[.int .i64 r.k, .int .i64 r.be, .slice r.a1 r.l1 r.c1, .int .i64 r.bn, .slice r.a2 r.l2 r.c2, .slice r.a3 r.l3 r.c3, .int .i64 r.s, .int .i64 r.d, .int .i64 r.t, .int .i64 r.n, .string r.x] 77)) r 77 (w.heap.size + 1) (by simp)).below ((Below.refl _ _).alloc (Nat.le_refl _) _)
  have OA2 : Hid (OwnT ((((w.alloc (.cells #[.int .i64 r.k, .int .i64 r.be, .slice r.a1 r.l1 r.c1, .int .i64 r.bn, .slice r.a2 r.l2 r.c2, .slice r.a3 r.l3 r.c3, .int .i64 r.s, .int .i64 r.d, .int .i64 r.t, .int .i64 r.n, .string r.x] 77)).alloc (.cells #[.int .i64 r.k, .int .i64 r.be, .slice r.a1 r.l1 r.c1, .int .i64 r.bn, .slice r.a2 r.l2 r.c2, .slice r.a3 r.l3 r.c3, .int .i64 r.s, .int .i64 r.d, .int .i64 r.t, .int .i64 r.n, .string r.x] 77)).alloc (.map (ent4 (.func (Fn.func 190) #[] #[.pointer (some ⟨(w.heap.size + 1), 0, none⟩)]) (.func (Fn.func 192) #[] #[.pointer (some ⟨(w.heap.size + 1), 0, none⟩)]) (.func (Fn.func 194) #[] #[.pointer (some ⟨(w.heap.size + 1), 0, none⟩)]) (.func (Fn.func 196) #[] #[.pointer (some ⟨(w.heap.size + 1), 0, none⟩)])) 4)).drew) w.heap.size r) := show OwnT ((((w.alloc (.cells #[.int .i64 r.k, .int .i64 r.be, .slice r.a1 r.l1 r.c1, .int .i64 r.bn, .slice r.a2 r.l2 r.c2, .slice r.a3 r.l3 r.c3, .int .i64 r.s, .int .i64 r.d, .int .i64 r.t, .int .i64 r.n, .string r.x] 77)).alloc (.cells #[.int .i64 r.k, .int .i64 r.be, .slice r.a1 r.l1 r.c1, .int .i64 r.bn, .slice r.a2 r.l2 r.c2, .slice r.a3 r.l3 r.c3, .int .i64 r.s, .int .i64 r.d, .int .i64 r.t, .int .i64 r.n, .string r.x] 77)).alloc (.map (ent4 (.func (Fn.func 190) #[] #[.pointer (some ⟨(w.heap.size + 1), 0, none⟩)]) (.func (Fn.func 192) #[] #[.pointer (some ⟨(w.heap.size + 1), 0, none⟩)]) (.func (Fn.func 194) #[] #[.pointer (some ⟨(w.heap.size + 1), 0, none⟩)]) (.func (Fn.func 196) #[] #[.pointer (some ⟨(w.heap.size + 1), 0, none⟩)])) 4))) w.heap.size r from (OA.out.below ((Below.refl _ _).alloc (Nat.le_refl _) _)).below ((Below.refl _ _).alloc (Nat.le_refl _) _)
  have HB2 : Hid (Below w.heap.size w ((((w.alloc (.cells #[.int .i64 r.k, .int .i64 r.be, .slice r.a1 r.l1 r.c1, .int .i64 r.bn, .slice r.a2 r.l2 r.c2, .slice r.a3 r.l3 r.c3, .int .i64 r.s, .int .i64 r.d, .int .i64 r.t, .int .i64 r.n, .string r.x] 77)).alloc (.cells #[.int .i64 r.k, .int .i64 r.be, .slice r.a1 r.l1 r.c1, .int .i64 r.bn, .slice r.a2 r.l2 r.c2, .slice r.a3 r.l3 r.c3, .int .i64 r.s, .int .i64 r.d, .int .i64 r.t, .int .i64 r.n, .string r.x] 77)).alloc (.map (ent4 (.func (Fn.func 190) #[] #[.pointer (some ⟨(w.heap.size + 1), 0, none⟩)]) (.func (Fn.func 192) #[] #[.pointer (some ⟨(w.heap.size + 1), 0, none⟩)]) (.func (Fn.func 194) #[] #[.pointer (some ⟨(w.heap.size + 1), 0, none⟩)]) (.func (Fn.func 196) #[] #[.pointer (some ⟨(w.heap.size + 1), 0, none⟩)])) 4)).drew)) := ((((Below.refl _ w).alloc (Nat.le_refl _) _).alloc (by simp) _).alloc (by simp; omega) _).drew
  have RB2 := Lib.hid (h.below HB2.out)
  clear h hl hk
  have cS := gspellers r (w.alloc (.cells #[.int .i64 r.k, .int .i64 r.be, .slice r.a1 r.l1 r.c1, .int .i64 r.bn, .slice r.a2 r.l2 r.c2, .slice r.a3 r.l3 r.c3, .int .i64 r.s, .int .i64 r.d, .int .i64 r.t, .int .i64 r.n, .string r.x] 77)).drew
  have hs1 : (w.alloc (.cells #[.int .i64 r.k, .int .i64 r.be, .slice r.a1 r.l1 r.c1, .int .i64 r.bn, .slice r.a2 r.l2 r.c2, .slice r.a3 r.l3 r.c3, .int .i64 r.s, .int .i64 r.d, .int .i64 r.t, .int .i64 r.n, .string r.x] 77)).drew.heap.size = w.heap.size + 1 := by simp
  rw [hs1] at cS
  clear hs1
  obtain ⟨⟨u0, u1, u2, u3, u4, u5, u6, u7, u8, u9, u10⟩, -⟩ := OA.out
  go_enter Tryz.func132, Tryz.ntmps132
  go_wp2_with fail
  go_region_with (go_at_call 163; refine cS.mono ?_; rintro e w9 ⟨rfl, rfl⟩; clear u0 u1 u2 u3 u4 u5 u6 u7 u8 u9 u10; obtain ⟨⟨u0, u1, u2, u3, u4, u5, u6, u7, u8, u9, u10⟩, -⟩ := OA2.out)
  all_goals
    go_wp2_with fail
    clear hL cS u0 u1 u2 u3 u4 u5 u6 u7 u8 u9 u10
    generalize ((((w.alloc (.cells #[.int .i64 r.k, .int .i64 r.be, .slice r.a1 r.l1 r.c1, .int .i64 r.bn, .slice r.a2 r.l2 r.c2, .slice r.a3 r.l3 r.c3, .int .i64 r.s, .int .i64 r.d, .int .i64 r.t, .int .i64 r.n, .string r.x] 77)).alloc (.cells #[.int .i64 r.k, .int .i64 r.be, .slice r.a1 r.l1 r.c1, .int .i64 r.bn, .slice r.a2 r.l2 r.c2, .slice r.a3 r.l3 r.c3, .int .i64 r.s, .int .i64 r.d, .int .i64 r.t, .int .i64 r.n, .string r.x] 77)).alloc (.map (ent4 (.func (Fn.func 190) #[] #[.pointer (some ⟨(w.heap.size + 1), 0, none⟩)]) (.func (Fn.func 192) #[] #[.pointer (some ⟨(w.heap.size + 1), 0, none⟩)]) (.func (Fn.func 194) #[] #[.pointer (some ⟨(w.heap.size + 1), 0, none⟩)]) (.func (Fn.func 196) #[] #[.pointer (some ⟨(w.heap.size + 1), 0, none⟩)])) 4)).drew) = V at *
    refine (goth_any r p _ RB2.out).mono ?_
    rintro e V1 ⟨rfl, hb⟩
    have OB3 := Lib.hid (OB.out.below hb)
    have RB3 := Lib.hid (RB2.out.below hb)
    have HB3 := Lib.hid (HB2.out.trans (hb.mono HB2.out.size))
    clear hb
    by_cases hal : p.Alone
    · rw [decide_eq_true hal]
      have HE := Lib.hid (sp_k3 RA.out HK.out hal)
      clear hal
      go_wp2_with fail
      refine (gsp3 (w.heap.size + 1) r p V1 OB3.out RB3.out HL.out).mono ?_
      rintro e V2 ⟨⟨v9, rfl, ho⟩, hb⟩
      obtain ⟨a9, c9, rfl⟩ := gown_form ho
      have HO := Lib.hid (own_mono ho HB3.out.size)
      have HB4 := Lib.hid (HB3.out.trans (hb.mono HB3.out.size))
      clear ho hb
      go_wp2_with fail
      go_ret2
      rw [HE.out.1, HE.out.2]
      exact ⟨⟨_, rfl, HO.out⟩, HB4.out⟩
    · rw [decide_eq_false hal]
      have HN : Hid (¬ p.Ok) := fun h => hal (ok_alone h)
      clear hal
      go_wp2_with fail
      go_ret2
      exact rets_sp HN.out HB3.out
set_option maxHeartbeats 16000000 in
theorem gspell5 (r : RPt) (p : Pt) (w : World) (h : r.Rd w p) (hl : PtFew p) (hk : p.k ≠ 1 ∧ p.k ≠ 2 ∧ p.k ≠ 3 ∧ p.k ≠ 4) : Calls Tryz.prog 132 #[.agg #[.int .i64 r.k, .int .i64 r.be, .slice r.a1 r.l1 r.c1, .int .i64 r.bn, .slice r.a2 r.l2 r.c2, .slice r.a3 r.l3 r.c3, .int .i64 r.s, .int .i64 r.d, .int .i64 r.t, .int .i64 r.n, .string r.x]] w (RetS w (spL p) (spK p)) := by
  have RA := Lib.hid h
  have HL : Hid (PtFew p) := hl
  have HK := Lib.hid hk
  have hL : (Instr.lookup 243 (.map (some (w.heap.size + 1 + 1))) (.int .i64 r.k) true).run Tryz.prog ((((w.alloc (.cells #[.int .i64 r.k, .int .i64 r.be, .slice r.a1 r.l1 r.c1, .int .i64 r.bn, .slice r.a2 r.l2 r.c2, .slice r.a3 r.l3 r.c3, .int .i64 r.s, .int .i64 r.d, .int .i64 r.t, .int .i64 r.n, .string r.x] 77)).alloc (.cells #[.int .i64 r.k, .int .i64 r.be, .slice r.a1 r.l1 r.c1, .int .i64 r.bn, .slice r.a2 r.l2 r.c2, .slice r.a3 r.l3 r.c3, .int .i64 r.s, .int .i64 r.d, .int .i64 r.t, .int .i64 r.n, .string r.x] 77)).alloc (.map (ent4 (.func (Fn.func 190) #[] #[.pointer (some ⟨(w.heap.size + 1), 0, none⟩)]) (.func (Fn.func 192) #[] #[.pointer (some ⟨(w.heap.size + 1), 0, none⟩)]) (.func (Fn.func 194) #[] #[.pointer (some ⟨(w.heap.size + 1), 0, none⟩)]) (.func (Fn.func 196) #[] #[.pointer (some ⟨(w.heap.size + 1), 0, none⟩)])) 4)).drew) = .ok (.tuple #[.nilFunc, .bool false]) ((((w.alloc (.cells #[.int .i64 r.k, .int .i64 r.be, .slice r.a1 r.l1 r.c1, .int .i64 r.bn, .slice r.a2 r.l2 r.c2, .slice r.a3 r.l3 r.c3, .int .i64 r.s, .int .i64 r.d, .int .i64 r.t, .int .i64 r.n, .string r.x] 77)).alloc (.cells #[.int .i64 r.k, .int .i64 r.be, .slice r.a1 r.l1 r.c1, .int .i64 r.bn, .slice r.a2 r.l2 r.c2, .slice r.a3 r.l3 r.c3, .int .i64 r.s, .int .i64 r.d, .int .i64 r.t, .int .i64 r.n, .string r.x] 77)).alloc (.map (ent4 (.func (Fn.func 190) #[] #[.pointer (some ⟨(w.heap.size + 1), 0, none⟩)]) (.func (Fn.func 192) #[] #[.pointer (some ⟨(w.heap.size + 1), 0, none⟩)]) (.func (Fn.func 194) #[] #[.pointer (some ⟨(w.heap.size + 1), 0, none⟩)]) (.func (Fn.func 196) #[] #[.pointer (some ⟨(w.heap.size + 1), 0, none⟩)])) 4)).drew) := run_look9_no underM9 underI9 _ (ent4 (.func (Fn.func 190) #[] #[.pointer (some ⟨(w.heap.size + 1), 0, none⟩)]) (.func (Fn.func 192) #[] #[.pointer (some ⟨(w.heap.size + 1), 0, none⟩)]) (.func (Fn.func 194) #[] #[.pointer (some ⟨(w.heap.size + 1), 0, none⟩)]) (.func (Fn.func 196) #[] #[.pointer (some ⟨(w.heap.size + 1), 0, none⟩)])) 4 r.k _ (w.heap.size + 1 + 1) (show ((((w.alloc (.cells #[.int .i64 r.k, .int .i64 r.be, .slice r.a1 r.l1 r.c1, .int .i64 r.bn, .slice r.a2 r.l2 r.c2, .slice r.a3 r.l3 r.c3, .int .i64 r.s, .int .i64 r.d, .int .i64 r.t, .int .i64 r.n, .string r.x] 77)).alloc (.cells #[.int .i64 r.k, .int .i64 r.be, .slice r.a1 r.l1 r.c1, .int .i64 r.bn, .slice r.a2 r.l2 r.c2, .slice r.a3 r.l3 r.c3, .int .i64 r.s, .int .i64 r.d, .int .i64 r.t, .int .i64 r.n, .string r.x] 77)).alloc (.map (ent4 (.func (Fn.func 190) #[] #[.pointer (some ⟨(w.heap.size + 1), 0, none⟩)]) (.func (Fn.func 192) #[] #[.pointer (some ⟨(w.heap.size + 1), 0, none⟩)]) (.func (Fn.func 194) #[] #[.pointer (some ⟨(w.heap.size + 1), 0, none⟩)]) (.func (Fn.func 196) #[] #[.pointer (some ⟨(w.heap.size + 1), 0, none⟩)])) 4))).heap[w.heap.size + 1 + 1]? = some _ from heap_last _ _ _ (by simp)) (by rw [h.k]; exact find0 _ _ _ _ _ hk) (zeroF9 _)
  have OA := Lib.hid (ownt_alloc w r 77 w.heap.size rfl)
  have OB : Hid (OwnT ((((w.alloc (.cells #[.int .i64 r.k, .int .i64 r.be, .slice r.a1 r.l1 r.c1, .int .i64 r.bn, .slice r.a2 r.l2 r.c2, .slice r.a3 r.l3 r.c3, .int .i64 r.s, .int .i64 r.d, .int .i64 r.t, .int .i64 r.n, .string r.x] 77)).alloc (.cells #[.int .i64 r.k, .int .i64 r.be, .slice r.a1 r.l1 r.c1, .int .i64 r.bn, .slice r.a2 r.l2 r.c2, .slice r.a3 r.l3 r.c3, .int .i64 r.s, .int .i64 r.d, .int .i64 r.t, .int .i64 r.n, .string r.x] 77)).alloc (.map (ent4 (.func (Fn.func 190) #[] #[.pointer (some ⟨(w.heap.size + 1), 0, none⟩)]) (.func (Fn.func 192) #[] #[.pointer (some ⟨(w.heap.size + 1), 0, none⟩)]) (.func (Fn.func 194) #[] #[.pointer (some ⟨(w.heap.size + 1), 0, none⟩)]) (.func (Fn.func 196) #[] #[.pointer (some ⟨(w.heap.size + 1), 0, none⟩)])) 4)).drew) (w.heap.size + 1) r) := show OwnT ((((w.alloc (.cells #[.int .i64 r.k, .int .i64 r.be, .slice r.a1 r.l1 r.c1, .int .i64 r.bn, .slice r.a2 r.l2 r.c2, .slice r.a3 r.l3 r.c3, .int .i64 r.s, .int .i64 r.d, .int .i64 r.t, .int .i64 r.n, .string r.x] 77)).alloc (.cells #[.int .i64 r.k, .int .i64 r.be, .slice r.a1 r.l1 r.c1, .int .i64 r.bn, .slice r.a2 r.l2 r.c2, .slice r.a3 r.l3 r.c3, .int .i64 r.s, .int .i64 r.d, .int .i64 r.t, .int .i64 r.n, .string r.x] 77)).alloc (.map (ent4 (.func (Fn.func 190) #[] #[.pointer (some ⟨(w.heap.size + 1), 0, none⟩)]) (.func (Fn.func 192) #[] #[.pointer (some ⟨(w.heap.size + 1), 0, none⟩)]) (.func (Fn.func 194) #[] #[.pointer (some ⟨(w.heap.size + 1), 0, none⟩)]) (.func (Fn.func 196) #[] #[.pointer (some ⟨(w.heap.size + 1), 0, none⟩)])) 4))) (w.heap.size + 1) r from (ownt_alloc (w.alloc (.cells #[.int .i64 r.k, .int .i64 r.be, .slice r.a1 r.l1 r.c1, .int .i64 r.bn, .slice r.a2 r.l2 r.c2, .slice r.a3 r.l3 r.c3, .int .i64 r.s, .int .i64 r.d, .int .i64 r.t, .int .i64 r.n, .string r.x] 77)) r 77 (w.heap.size + 1) (by simp)).below ((Below.refl _ _).alloc (Nat.le_refl _) _)
  have OA2 : Hid (OwnT ((((w.alloc (.cells #[.int .i64 r.k, .int .i64 r.be, .slice r.a1 r.l1 r.c1, .int .i64 r.bn, .slice r.a2 r.l2 r.c2, .slice r.a3 r.l3 r.c3, .int .i64 r.s, .int .i64 r.d, .int .i64 r.t, .int .i64 r.n, .string r.x] 77)).alloc (.cells #[.int .i64 r.k, .int .i64 r.be, .slice r.a1 r.l1 r.c1, .int .i64 r.bn, .slice r.a2 r.l2 r.c2, .slice r.a3 r.l3 r.c3, .int .i64 r.s, .int .i64 r.d, .int .i64 r.t, .int .i64 r.n, .string r.x] 77)).alloc (.map (ent4 (.func (Fn.func 190) #[] #[.pointer (some ⟨(w.heap.size + 1), 0, none⟩)]) (.func (Fn.func 192) #[] #[.pointer (some ⟨(w.heap.size + 1), 0, none⟩)]) (.func (Fn.func 194) #[] #[.pointer (some ⟨(w.heap.size + 1), 0, none⟩)]) (.func (Fn.func 196) #[] #[.pointer (some ⟨(w.heap.size + 1), 0, none⟩)])) 4)).drew) w.heap.size r) := show OwnT ((((w.alloc (.cells #[.int .i64 r.k, .int .i64 r.be, .slice r.a1 r.l1 r.c1, .int .i64 r.bn, .slice r.a2 r.l2 r.c2, .slice r.a3 r.l3 r.c3, .int .i64 r.s, .int .i64 r.d, .int .i64 r.t, .int .i64 r.n, .string r.x] 77)).alloc (.cells #[.int .i64 r.k, .int .i64 r.be, .slice r.a1 r.l1 r.c1, .int .i64 r.bn, .slice r.a2 r.l2 r.c2, .slice r.a3 r.l3 r.c3, .int .i64 r.s, .int .i64 r.d, .int .i64 r.t, .int .i64 r.n, .string r.x] 77)).alloc (.map (ent4 (.func (Fn.func 190) #[] #[.pointer (some ⟨(w.heap.size + 1), 0, none⟩)]) (.func (Fn.func 192) #[] #[.pointer (some ⟨(w.heap.size + 1), 0, none⟩)]) (.func (Fn.func 194) #[] #[.pointer (some ⟨(w.heap.size + 1), 0, none⟩)]) (.func (Fn.func 196) #[] #[.pointer (some ⟨(w.heap.size + 1), 0, none⟩)])) 4))) w.heap.size r from (OA.out.below ((Below.refl _ _).alloc (Nat.le_refl _) _)).below ((Below.refl _ _).alloc (Nat.le_refl _) _)
  have HB2 : Hid (Below w.heap.size w ((((w.alloc (.cells #[.int .i64 r.k, .int .i64 r.be, .slice r.a1 r.l1 r.c1, .int .i64 r.bn, .slice r.a2 r.l2 r.c2, .slice r.a3 r.l3 r.c3, .int .i64 r.s, .int .i64 r.d, .int .i64 r.t, .int .i64 r.n, .string r.x] 77)).alloc (.cells #[.int .i64 r.k, .int .i64 r.be, .slice r.a1 r.l1 r.c1, .int .i64 r.bn, .slice r.a2 r.l2 r.c2, .slice r.a3 r.l3 r.c3, .int .i64 r.s, .int .i64 r.d, .int .i64 r.t, .int .i64 r.n, .string r.x] 77)).alloc (.map (ent4 (.func (Fn.func 190) #[] #[.pointer (some ⟨(w.heap.size + 1), 0, none⟩)]) (.func (Fn.func 192) #[] #[.pointer (some ⟨(w.heap.size + 1), 0, none⟩)]) (.func (Fn.func 194) #[] #[.pointer (some ⟨(w.heap.size + 1), 0, none⟩)]) (.func (Fn.func 196) #[] #[.pointer (some ⟨(w.heap.size + 1), 0, none⟩)])) 4)).drew)) := ((((Below.refl _ w).alloc (Nat.le_refl _) _).alloc (by simp) _).alloc (by simp; omega) _).drew
  have RB2 := Lib.hid (h.below HB2.out)
  clear h hl hk
  have cS := gspellers r (w.alloc (.cells #[.int .i64 r.k, .int .i64 r.be, .slice r.a1 r.l1 r.c1, .int .i64 r.bn, .slice r.a2 r.l2 r.c2, .slice r.a3 r.l3 r.c3, .int .i64 r.s, .int .i64 r.d, .int .i64 r.t, .int .i64 r.n, .string r.x] 77)).drew
  have hs1 : (w.alloc (.cells #[.int .i64 r.k, .int .i64 r.be, .slice r.a1 r.l1 r.c1, .int .i64 r.bn, .slice r.a2 r.l2 r.c2, .slice r.a3 r.l3 r.c3, .int .i64 r.s, .int .i64 r.d, .int .i64 r.t, .int .i64 r.n, .string r.x] 77)).drew.heap.size = w.heap.size + 1 := by simp
  rw [hs1] at cS
  clear hs1
  obtain ⟨⟨u0, u1, u2, u3, u4, u5, u6, u7, u8, u9, u10⟩, -⟩ := OA.out
  go_enter Tryz.func132, Tryz.ntmps132
  go_wp2_with fail
  go_region_with (go_at_call 163; refine cS.mono ?_; rintro e w9 ⟨rfl, rfl⟩; clear u0 u1 u2 u3 u4 u5 u6 u7 u8 u9 u10; obtain ⟨⟨u0, u1, u2, u3, u4, u5, u6, u7, u8, u9, u10⟩, -⟩ := OA2.out)
  all_goals
    go_wp2_with fail
    clear hL cS u0 u1 u2 u3 u4 u5 u6 u7 u8 u9 u10
    go_ret2
    exact rets_sp (ok_k0 HK.out) HB2.out
theorem gspell_any (r : RPt) (p : Pt) (w : World) (h : r.Rd w p) (hl : PtFew p) : Calls Tryz.prog 132 #[.agg #[.int .i64 r.k, .int .i64 r.be, .slice r.a1 r.l1 r.c1, .int .i64 r.bn, .slice r.a2 r.l2 r.c2, .slice r.a3 r.l3 r.c3, .int .i64 r.s, .int .i64 r.d, .int .i64 r.t, .int .i64 r.n, .string r.x]] w (RetS w (spL p) (spK p)) := by
  rcases hl.2.2.2.2 with h0 | h2 | h3
  · exact gspell5 r p w h hl ⟨by omega, by omega, by omega, by omega⟩
  · exact gspell2 r p w h hl h2
  · exact gspell3 r p w h hl h3
end Go.Proofs.YthnajpckhoomgaaGreat
namespace Go.Proofs.YthnajpckhoomgaaGreat
set_option maxRecDepth 100000
set_option linter.unusedVariables false
open Go.RowKit
section
variable (R : RowT)
theorem run_gapps9 (w : World) (ty : TypeId) (S : Nat) (v : Value) (xs : List R.α) (hown : w.ownsRow S R.T R.K v xs.length (gflat R xs)) (S' : Nat) (u : Value) (ys : List R.α) (hu : w.ownsRow S' R.T R.K u ys.length (gflat R ys)) (hl : xs.length + ys.length ≤ 30000) (hS : S ≤ w.heap.size) :
    ∃ r w', (Builtin.append_ #[R.SL, R.SL] ty #[v, u]).run Tryz.prog w = .ok r w' ∧ w'.ownsRow S R.T R.K r (xs ++ ys).length (gflat R (xs ++ ys)) ∧ w.grownBy w' v.ownBlock ∧ ∀ g, r.ownBlock = some g → v.ownBlock = some g ∨ w.heap.size ≤ g := by
  obtain ⟨i0, hi, hz0, hz1, hz2⟩ := info_parts R.hinfo
  have hzs := R.hz
  have hbb := R.hb
  have hpos := R.hK
  have e : gflat R (xs ++ ys) = gflat R xs ++ gflat R ys := gflat_app R xs ys
  have e2 : (xs ++ ys).length = xs.length + ys.length := by simp
  have hfl := gflat_len R xs
  have hfy := gflat_len R ys
  have hby : (xs.length + ys.length) * R.bytes ≤ 140737488355328 := Nat.le_trans (Nat.mul_le_mul hl hbb) (by decide)
  have same : ∀ row, w.grownBy w row := fun _ => ⟨rfl, rfl, rfl, Nat.le_refl _, fun _ _ _ => rfl⟩
  rcases hu.2 with ⟨rfl, h0⟩ | ⟨b, c, cur2, rfl, _, _, hyc, _⟩
  · have hy : ys = [] := List.length_eq_zero_iff.1 h0
    subst hy
    refine ⟨v, w, run_append_owned_none (P := Tryz.prog) (w := w) S R.SL ty R.T i0 R.K R.hSL hi v xs.length (gflat R xs) hown, ?_, same _, fun _ h => .inl h⟩
    rw [List.append_nil]; exact hown
  · have hnews : ∀ j q, (gflat R ys)[j]? = some q → w.cell? ((⟨b, 0, none⟩ : Addr).add j) = some q := fun j q hj => by
      have h1 := (List.getElem?_eq_some_iff.1 hj).1
      rw [hfy] at h1
      rw [add_spot', Nat.zero_add, gown_cell hu j h1]; exact hj
    have hone := gflat_ones R ys
    rw [e, e2]
    rcases hown.2 with ⟨rfl, h0⟩ | ⟨g, cap, cur, rfl, hg1, hg2, _⟩
    · obtain ⟨v', w', hr, h2, h3, _, _⟩ := run_append_own_at (P := Tryz.prog) w w.heap.size R.SL ty R.T i0 R.zero R.K R.bytes R.hSL hi hz0 hz1 hz2 hzs hpos (.slice none 0 0) xs.length (gflat R xs) ⟨hown.1, .inl ⟨rfl, h0⟩⟩ ⟨b, 0, none⟩ ys.length c (gflat R ys) hfy hnews hone (by unfold maxLen; omega) hby (Nat.le_refl _)
      exact ⟨v', w', hr, gown_mono h2 hS, h3, fun g hg => .inr (World.ownsRow.lt h2 g hg).1⟩
    · by_cases hroom : xs.length + ys.length ≤ cap
      · obtain ⟨w', hr, h2, h3⟩ := run_append_fits (P := Tryz.prog) w S R.SL ty R.T i0 R.K R.hSL hi hz1 g xs.length cap (gflat R xs) hown ⟨b, 0, none⟩ ys.length c (gflat R ys) hfy hnews hone hroom
        exact ⟨_, w', hr, h2, h3, fun g' h => .inl h⟩
      · obtain ⟨v', w', hr, h2, h3⟩ := run_append_arg_grows (P := Tryz.prog) w R.SL ty R.T i0 R.zero R.K R.bytes R.hSL hi hz0 hz1 hz2 hzs hpos ⟨g, 0, none⟩ xs.length cap (gflat R xs) hfl (hown.cells rfl) ⟨b, 0, none⟩ ys.length c (gflat R ys) hfy hnews (by omega) (by unfold maxLen; omega) hby
        exact ⟨v', w', hr, gown_mono h2 hS, ⟨h3.os, h3.tape, h3.output, h3.size, fun k hk _ => h3.block k hk (by simp)⟩, fun g' hg => .inr (World.ownsRow.lt h2 g' hg).1⟩
end
theorem brun9 (w : World) (ty : TypeId) (S : Nat) (v : Value) (xs : List Int) (hown : OwB w S v xs) (S' : Nat) (u : Value) (ys : List Int) (hu : OwB w S' u ys) (hl : xs.length + ys.length ≤ 30000) (hS : S ≤ w.heap.size) :
    ∃ r w', (Builtin.append_ #[115, 115] ty #[v, u]).run Tryz.prog w = .ok r w' ∧ OwB w' S r (xs ++ ys) ∧ w.grownBy w' v.ownBlock ∧ ∀ g, r.ownBlock = some g → v.ownBlock = some g ∨ w.heap.size ≤ g := by
  obtain ⟨r, w', hr, h1, h2, h3⟩ := run_gapps9 RB w ty S v xs hown.to S' u ys hu.to hl hS
  exact ⟨r, w', hr, OwB.of h1, h2, h3⟩
/-- 'x = append(x, y...)' of bytes: of the row that it hands back it is the elder one's block, or a new one. -/
theorem app_sep9 {ops : Array Oper} {rest : List Oper} {o : Oper} {a : Act} {Q : Exit → Act → World → Prop} {w : World} (hgd : o.guard = none) (s x : Operand)
    (ho : o.op = .call { callee := .builtin .append, args := #[s, x], argTypes := #[115, 115] }) (S : Nat) (xs : List Int) (hown : OwB w S (a.eval s) xs) (S' : Nat) (ys : List Int) (hu : OwB w S' (a.eval x) ys) (hl : xs.length + ys.length ≤ 30000) (hS : S ≤ w.heap.size)
    (h : ∀ v' w', OwB w' S v' (xs ++ ys) → w.grownBy w' (a.eval s).ownBlock → (∀ g, v'.ownBlock = some g → (a.eval s).ownBlock = some g ∨ w.heap.size ≤ g) → wpList Tryz.prog ops Q rest (a.put o.dst v') w') : wpList Tryz.prog ops Q (o :: rest) a w := by
  obtain ⟨v', w', hr, h2, h3, h4⟩ := brun9 w o.type S _ xs hown S' _ ys hu hl hS
  refine wpList_plain hgd fun _ hK => ?_
  unfold Oper.wp execOp
  simp only [ho, resolve, invoke, builtin, Sem.run_bind, Sem.run_pure, Result.andThen_ok, List.map_toArray, List.map_cons, List.map_nil, hr]
  exact hK _ _ (h v' w' h2 h3 h4)
def psL (ps : List Pt) : List Int := if AllP ps then psB ps else []
def psK (ps : List Pt) : Int := if AllP ps then 0 else 1
theorem retsp_no {w w' : World} {ps : List Pt} (h : ¬ AllP ps) (hb : Below w.heap.size w w') : RetS w (psL ps) (psK ps) (.returned (.tuple #[.slice none 0 0, .int .i64 1])) w' := by
  unfold psL psK
  rw [if_neg h, if_neg h]
  exact rets_no ⟨rfl, hb⟩
theorem retsp_ok {w w' : World} {ps : List Pt} {v : Value} (h : AllP ps) (ho : OwB w' w.heap.size v (psB ps)) (hb : Below w.heap.size w w') : RetS w (psL ps) (psK ps) (.returned (.tuple #[v, .int .i64 0])) w' := by
  unfold psL psK
  rw [if_pos h, if_pos h]
  exact ⟨⟨_, rfl, ho⟩, hb⟩
theorem lo2 {L : Nat} (h : L ≤ 65535) : lo (L : Int) 2 = [(L : Int) / 256, (L : Int) % 256] := by
  simp [lo, List.range_succ]
  omega
theorem gputN (v : Int) (w : World) (h : 0 ≤ v ∧ v ≤ 65535) : Calls Tryz.prog 84 #[.int .i64 v, .int .i64 2] w fun e w' => ∃ r, e = .returned r ∧ OwB w' w.heap.size r (lo v 2) ∧ Below w.heap.size w w' := by
  refine (gput_own v 2 w ⟨h.1, by have := h.2; show v < 256 * (256 * 1); omega⟩ (by decide) (by decide)).mono fun e w' ⟨r, h1, h2, h3⟩ => ⟨r, h1, ?_, h3⟩
  unfold OwB
  rw [lo_len]
  exact h2
theorem gputE (v : Int) (w : World) (h : EpOk v) : Calls Tryz.prog 84 #[.int .i64 v, .int .i64 4] w fun e w' => ∃ r, e = .returned r ∧ OwB w' w.heap.size r (lo v 4) ∧ Below w.heap.size w w' := by
  refine (gput_own v 4 w ⟨h.1, by have := h.2; show v < 256 * (256 * (256 * (256 * 1))); omega⟩ (by decide) (by decide)).mono fun e w' ⟨r, h1, h2, h3⟩ => ⟨r, h1, ?_, h3⟩
  unfold OwB
  rw [lo_len]
  exact h2
set_option maxHeartbeats 32000000 in
theorem gspelled_any (a : Option Addr) (c : Nat) (ps : List Pt) (w : World) (h : Ps w (.slice a ps.length c) ps) (hf : ∀ i, i < ps.length → PtFew (ps.getD i zPt)) (hl : ps.length ≤ 8) :
    Calls Tryz.prog 83 #[.slice a ps.length c] w (RetS w (psL ps) (psK ps)) := by
  have HX := Lib.hid h
  have HI := Lib.hid hf
  have HP8 : Hid (ps.length ≤ 8) := hl
  clear h hf hl
  go_enter Tryz.func83, Tryz.ntmps83
  go_wp2_with fail
  go_loopw [4, 11] (fun v i wr => ∃ (k : Nat) (u : Value), k ≤ ps.length ∧ i = .int .i64 k ∧ u = v ∧ OwB wr w.heap.size u (psB (ps.take k)) ∧ (∀ j, j < k → (ps.getD j zPt).Ok) ∧ Below w.heap.size w wr) (fun _ i _ => ps.length - (intOf i).toNat)
  case atStart => exact ⟨0, _, Nat.zero_le _, rfl, rfl, World.ownsRow_nil _ _ _ _, fun j h => absurd h (Nat.not_lt_zero _), Below.refl _ _⟩
  case round =>
    obtain ⟨k, u, hk, rfl, rfl, hrow, hall, hbel⟩ := hrel
    have HR := Lib.hid hrow
    have HA := Lib.hid hall
    have HBV := Lib.hid hbel
    have HSV : Hid (w.heap.size ≤ wr.heap.size) := hbel.size
    have HU : Hid (∀ g, u.ownBlock = some g → g < wr.heap.size) := fun g hg => (OwB.lt hrow g hg).2
    have hX := HX.out.below hbel
    have hlen : (psB (ps.take k)).length ≤ 4824 := by
      have h1 := psB_len (ps := ps.take k) (fun i hi => by
        have hi' : i < k := by rw [List.length_take] at hi; omega
        have h2 := hall i hi'
        have e : (ps.take k).getD i zPt = ps.getD i zPt := by simp [List.getD, hi']
        rw [e]; exact h2)
      have h2 : (ps.take k).length ≤ 8 := by rw [List.length_take]; have := HP8.out; omega
      omega
    have HLEN := Lib.hid hlen
    clear hrow hall hbel hlen
    by_cases hlt : k < ps.length
    · obtain ⟨b, off, r, rfl, hb1, x, hr⟩ := hX.at hlt
      have HF := Lib.hid (HI.out k hlt)
      have hst := psB_step ps k hlt
      obtain ⟨p1, hp1⟩ : ∃ p, ps.getD k zPt = p := ⟨_, rfl⟩
      rw [hp1] at hr HF hst
      have HK1 := Lib.hid hp1
      have HST := Lib.hid hst
      have HKR : Hid (r.k = p1.k) := hr.k
      have hk9 : (ps.length : Int) ≤ 8 := by have := HP8.out; omega
      have hk0 : (0 : Int) ≤ (k : Int) := by omega
      have hk1 : (k : Int) < (ps.length : Int) := by omega
      have hkn : ((k : Int)).toNat = k := Int.toNat_natCast k
      have hal := (Below.refl wr.heap.size wr).alloc (Nat.le_refl _) (.cells #[.int .i64 r.k, .int .i64 r.be, .slice r.a1 r.l1 r.c1, .int .i64 r.bn, .slice r.a2 r.l2 r.c2, .slice r.a3 r.l3 r.c3, .int .i64 r.s, .int .i64 r.d, .int .i64 r.t, .int .i64 r.n, .string r.x] 77)
      have OT := Lib.hid (ownt_alloc wr r 77 wr.heap.size rfl)
      have HRP := Lib.hid (hr.below hal)
      replace HR := Lib.hid (HR.out.below hal)
      replace HBV := Lib.hid (HBV.out.trans (hal.mono HSV.out))
      have HSV0 : Hid (w.heap.size ≤ (wr.alloc (.cells #[.int .i64 r.k, .int .i64 r.be, .slice r.a1 r.l1 r.c1, .int .i64 r.bn, .slice r.a2 r.l2 r.c2, .slice r.a3 r.l3 r.c3, .int .i64 r.s, .int .i64 r.d, .int .i64 r.t, .int .i64 r.n, .string r.x] 77)).heap.size) := Nat.le_trans HSV.out hal.size
      have hU0 : ∀ g, u.ownBlock = some g → g < (wr.alloc (.cells #[.int .i64 r.k, .int .i64 r.be, .slice r.a1 r.l1 r.c1, .int .i64 r.bn, .slice r.a2 r.l2 r.c2, .slice r.a3 r.l3 r.c3, .int .i64 r.s, .int .i64 r.d, .int .i64 r.t, .int .i64 r.n, .string r.x] 77)).heap.size := fun g hg => Nat.lt_of_lt_of_le (HU.out g hg) hal.size
      have HU0 := Lib.hid hU0
      clear hp1 hst hal hr hU0
      obtain ⟨x0, x1, x2, x3, x4, x5, x6, x7, x8, x9, x10⟩ := x
      go_wp2_with fail
      clear x0 x1 x2 x3 x4 x5 x6 x7 x8 x9 x10
      have cS := Lib.hid (gspell_any r p1 _ HRP.out HF.out)
      obtain ⟨V0, hV0⟩ : ∃ V0, wr.alloc (.cells #[.int .i64 r.k, .int .i64 r.be, .slice r.a1 r.l1 r.c1, .int .i64 r.bn, .slice r.a2 r.l2 r.c2, .slice r.a3 r.l3 r.c3, .int .i64 r.s, .int .i64 r.d, .int .i64 r.t, .int .i64 r.n, .string r.x] 77) = V0 := ⟨_, rfl⟩
      rw [hV0] at cS HR HBV OT HSV0 HU0 HRP ⊢
      clear hV0
      refine cS.out.mono ?_
      rintro e V1 ⟨⟨v9, rfl, hB9⟩, hb⟩
      replace HR := Lib.hid (HR.out.below hb)
      replace HBV := Lib.hid (HBV.out.trans (hb.mono HSV0.out))
      replace OT := Lib.hid (OT.out.below hb)
      have HSV1 : Hid (w.heap.size ≤ V1.heap.size) := Nat.le_trans HSV0.out hb.size
      clear hb
      obtain ⟨a9, c9, rfl⟩ := gown_form hB9
      by_cases hok : p1.Ok
      · rw [show spK p1 = 0 from if_pos hok]
        rw [show spL p1 = p1.bs from if_pos hok] at hB9 ⊢
        have hbl := Pt.bs_len hok
        have hkb : 0 ≤ p1.k ∧ p1.k < 256 := Pt.row_byt hok _ (by simp [Pt.row])
        obtain ⟨P, hP⟩ : ∃ P, psB (ps.take k) = P := ⟨_, rfl⟩
        obtain ⟨L, hL⟩ : ∃ L, p1.bs.length = L := ⟨_, rfl⟩
        have hlo := lo2 (L := L) (by omega)
        have hrow : p1.row = [p1.k] ++ (lo (L : Int) 2 ++ p1.bs) := by rw [hlo, ← hL]; rfl
        rw [hP] at HR HLEN
        rw [hP, hrow] at HST
        have T1 : Hid (Btw V1 V0.heap.size V1.heap.size (.slice a9 p1.bs.length c9) p1.bs) := ⟨hB9, fun g hg => (OwB.lt hB9 g hg).2⟩
        rw [hL] at hbl T1
        rw [hL]
        have HBL := Lib.hid hbl
        have HPK := Lib.hid hok
        have HKB := Lib.hid hkb
        have HLL : Hid (p1.bs.length = L) := hL
        have SP1 : Hid (Sep V0.heap.size V1.heap.size u) := fun g hg => .inl (HU0.out g hg)
        have t1 : IntKind.u8.wrap r.k = p1.k := by rw [HKR.out, IntKind.wrap_u8]; omega
        clear hok hB9 hbl hkb hP hL hrow hlo
        obtain ⟨⟨u0, u1, u2, u3, u4, u5, u6, u7, u8, u9, u10⟩, -⟩ := OT.out
        go_wp2_with (at_builtin; (skip; refine app_sep9 rfl (.tmp 23) (.tmp 27) rfl w.heap.size P (HR.out.below ((Below.refl _ V1).alloc (Nat.le_refl _) _)) V1.heap.size [p1.k] (own_lit1 V1 V1.heap.size p1.k (Nat.le_refl _) V1.heap.size rfl) (by have := HLEN.out; simp; omega) (by have := HSV1.out; simp; omega) ?_; intro v2 w2 ho9 hg9 hs9; (have hbz : Below V1.heap.size V1 (V1.alloc (.cells #[.int .u8 p1.k] 5)) := (Below.refl _ V1).alloc (Nat.le_refl _) _); (have SP2 := Lib.hid (SP1.out.next hbz.size hs9)); (have HB2 : Hid (Below w.heap.size w w2) := (HBV.out.trans (hbz.mono HSV1.out)).grown hg9 (Nat.le_trans HSV1.out hbz.size) (fun k hk => (HR.out.lt k hk).1)); (have T2 := Lib.hid ((T1.out.below hbz).grown SP1.out hg9)); (have HR2 := Lib.hid ho9); (have HS2 : Hid (V1.heap.size ≤ w2.heap.size) := Nat.le_trans hbz.size hg9.size); clear ho9 hg9 hs9 hbz))
        clear u0 u1 u2 u3 u4 u5 u6 u7 u8 u9 u10
        refine (gputN (L : Int) _ (by have := HBL.out; omega)).mono ?_
        rintro e V3 ⟨r3, rfl, ho3, hb⟩
        have T3 := Lib.hid (T2.out.below hb)
        have HR3 := Lib.hid (HR2.out.below hb)
        have HB3 : Hid (Below w.heap.size w V3) := HB2.out.trans (hb.mono HB2.out.size)
        have HS3 : Hid (V1.heap.size ≤ V3.heap.size) := Nat.le_trans HS2.out hb.size
        have HR9 := Lib.hid ho3
        clear hb ho3
        go_wp2_with (first
          | (at_builtin; (skip; refine app_sep9 rfl (.tmp 29) (.tmp 32) rfl w.heap.size (P ++ [p1.k]) HR3.out w2.heap.size (lo (L : Int) 2) HR9.out (by have := HLEN.out; simp [lo_len]; omega) HB3.out.size ?_; intro v4 w4 ho9 hg9 hs9; (have SP4 := Lib.hid (SP2.out.next HS3.out hs9)); (have HB4 : Hid (Below w.heap.size w w4) := HB3.out.grown hg9 HB3.out.size (fun k hk => (HR3.out.lt k hk).1)); (have T4 := Lib.hid (T3.out.grown SP2.out hg9)); (have HR4 := Lib.hid ho9); clear ho9 hg9 hs9))
          | (at_builtin; (skip; refine app_sep9 rfl (.tmp 34) (.tmp 35) rfl w.heap.size (P ++ [p1.k] ++ lo (L : Int) 2) HR4.out V0.heap.size p1.bs T4.out.1 (by have := HLEN.out; have := HBL.out; have := HLL.out; simp [lo_len]; omega) HB4.out.size ?_; intro v5 w5 ho9 hg9 hs9; (have HB5 : Hid (Below w.heap.size w w5) := HB4.out.grown hg9 HB4.out.size (fun k hk => (HR4.out.lt k hk).1)); (have HR5 := Lib.hid ho9); clear ho9 hg9 hs9)))
        go_roundw
        case rel =>
          refine ⟨k + 1, _, by omega, by go_num, rfl, by rw [HST.out]; simpa using HR5.out, fun j hj => ?_, HB5.out⟩
          by_cases h : j < k
          · exact HA.out j h
          · obtain rfl : j = k := by omega
            rw [HK1.out]; exact HPK.out
        case measure => simp [intOf]; omega
      · rw [show spK p1 = 1 from if_neg hok]
        have HNO : Hid (¬ p1.Ok) := hok
        clear hok
        go_wp2_with fail
        go_ret2
        refine retsp_no (fun h => HNO.out ?_) HBV.out
        rw [← HK1.out]; exact h k hlt
    · obtain rfl : k = ps.length := by omega
      have HALL : Hid (AllP ps) := HA.out
      rw [List.take_length] at HR
      go_wp2_with fail
      go_ret2
      exact retsp_ok HALL.out HR.out HBV.out
end Go.Proofs.YthnajpckhoomgaaGreat
namespace Go.Proofs.YthnajpckhoomgaaGreat
set_option maxRecDepth 100000
set_option linter.unusedVariables false
open Go.RowKit
theorem own_lit4 (w : World) (base : Nat) (x y z u : Int) (hb : base ≤ w.heap.size) (g : Nat) (hg : g = w.heap.size) : OwB (w.alloc (.cells #[.int .u8 x, .int .u8 y, .int .u8 z, .int .u8 u] 5)) base (.slice (some ⟨g, 0, none⟩) 4 4) [x, y, z, u] := by
  subst hg
  exact World.ownsRow_lit w #[.int .u8 x, .int .u8 y, .int .u8 z, .int .u8 u] 4 hb (by unfold maxLen; omega) rfl
theorem lo2i {v : Int} (h : 0 ≤ v ∧ v ≤ 65535) : lo v 2 = [v / 256, v % 256] := by
  simp [lo, List.range_succ]
  omega
theorem frB_split (fr ep tq pe : Int) (ps : List Pt) (M Z : Int) (P : List Int) (hP : psB ps = P) (hM : 17 + (P.length : Int) = M) (hM1 : M ≤ 1400) (hZ : sumN (frB0 fr ep tq pe ps) = Z) :
    [84, 1, fr, tq] ++ lo ep 4 ++ lo pe 4 ++ lo M 2 ++ [(ps.length : Int)] ++ P = frB0 fr ep tq pe ps ∧ frB0 fr ep tq pe ps ++ lo Z 2 = frB fr ep tq pe ps := by
  have hz := sumN_bd (frB0 fr ep tq pe ps)
  rw [hZ] at hz
  rw [lo2i (v := M) (by omega), lo2i hz]
  unfold frB
  rw [hZ]
  refine ⟨?_, rfl⟩
  unfold frB0 frHead
  rw [hP, hM]
  simp
set_option maxHeartbeats 32000000 in
theorem gbytes_any (fr ep tq pe : Int) (a : Option Addr) (c : Nat) (ps : List Pt) (w : World) (h : Ps w (.slice a ps.length c) ps) (hf : ∀ i, i < ps.length → PtFew (ps.getD i zPt)) : Calls Tryz.prog 50 #[.agg #[.int .i64 fr, .int .i64 ep, .int .i64 tq, .int .i64 pe, .slice a ps.length c]] w (RetF w fr ep tq pe ps) := by
  have OF := Lib.hid (ownf_alloc w fr ep tq pe (.slice a ps.length c) 42 w.heap.size rfl)
  have HB : Hid (Below w.heap.size w (w.alloc (.cells #[.int .i64 fr, .int .i64 ep, .int .i64 tq, .int .i64 pe, .slice a ps.length c] 42))) := (Below.refl _ w).alloc (Nat.le_refl _) _
  have HX := Lib.hid (h.below HB.out)
  have HI := Lib.hid hf
  clear h hf
  obtain ⟨V0, hV0⟩ : ∃ V0, w.alloc (.cells #[.int .i64 fr, .int .i64 ep, .int .i64 tq, .int .i64 pe, .slice a ps.length c] 42) = V0 := ⟨_, rfl⟩
  rw [hV0] at OF HB HX
  have HV0 := Lib.hid hV0
  clear hV0
  go_enter Tryz.func50, Tryz.ntmps50
  go_upto_region 1 with (fail)
  rw [HV0.out]
  clear HV0
  obtain ⟨⟨u0, u1, u2, u3, u4⟩, -⟩ := OF.out
  by_cases hn : FrHd fr ep tq pe ps.length
  rotate_left
  · have cH := ghead_fix fr ep tq pe a ps.length c false ⟨fun h => (by cases h), fun h => absurd h hn⟩ V0
    have HN := Lib.hid hn
    clear hn
    go_wp2_with fail
    refine cH.mono ?_
    rintro e V1 ⟨rfl, hb⟩
    have HB1 := Lib.hid (HB.out.trans (hb.mono HB.out.size))
    clear hb u0 u1 u2 u3 u4
    go_wp2_with fail
    go_ret2
    exact retf_no (fun h => HN.out h.1) HB1.out
  have cH := ghead_fix fr ep tq pe a ps.length c true ⟨fun _ => hn, fun _ => rfl⟩ V0
  have HN := Lib.hid hn
  clear hn
  go_wp2_with fail
  refine cH.mono ?_
  rintro e V1 ⟨rfl, hb⟩
  replace HB := Lib.hid (HB.out.trans (hb.mono HB.out.size))
  replace OF := Lib.hid (OF.out.below hb)
  replace HX := Lib.hid (HX.out.below hb)
  clear hb u0 u1 u2 u3 u4
  obtain ⟨⟨u0, u1, u2, u3, u4⟩, -⟩ := OF.out
  go_wp2_with fail
  refine (gspelled_any a c ps V1 HX.out HI.out HN.out.2.2.2.2.2).mono ?_
  rintro e V2 ⟨⟨v9, rfl, hB9⟩, hb⟩
  have HS12 : Hid (V1.heap.size ≤ V2.heap.size) := hb.size
  replace HB := Lib.hid (HB.out.trans (hb.mono HB.out.size))
  replace OF := Lib.hid (OF.out.below hb)
  clear hb u0 u1 u2 u3 u4 HX
  obtain ⟨⟨u0, u1, u2, u3, u4⟩, -⟩ := OF.out
  obtain ⟨a9, c9, rfl⟩ := gown_form hB9
  by_cases hall : AllP ps
  rotate_left
  · rw [show psK ps = 1 from if_neg hall, show psL ps = [] from if_neg hall]
    have HNA := Lib.hid hall
    clear hall hB9
    go_wp2_with fail
    go_ret2
    exact retf_no (fun h => HNA.out h.2.1) HB.out
  rw [show psK ps = 0 from if_pos hall]
  rw [show psL ps = psB ps from if_pos hall] at hB9 ⊢
  have hlen := psB_len hall
  have HALL := Lib.hid hall
  obtain ⟨P, hP⟩ : ∃ P, psB ps = P := ⟨_, rfl⟩
  have h8 := HN.out.2.2.2.2.2
  rw [hP] at hB9 hlen ⊢
  obtain ⟨M, hM⟩ : ∃ M : Int, 17 + (P.length : Int) = M := ⟨_, rfl⟩
  have hw1 : IntKind.i64.wrap (17 + (P.length : Int)) = M := by rw [hM, IntKind.wrap_i64]; omega
  have HP := Lib.hid hP
  have HM := Lib.hid hM
  have HLN : Hid (P.length ≤ 4824) := by show _ ≤ _; omega
  have HP8 : Hid (ps.length ≤ 8) := h8
  clear hP hM hall hlen h8
  by_cases hbig : M > 1400
  · have hbd : decide (M > 1400) = true := decide_eq_true hbig
    have HBG : Hid (M > 1400) := hbig
    clear hbig hB9
    go_wp2_with fail
    go_ret2
    refine retf_no (fun h => ?_) HB.out
    have h9 := h.2.2
    rw [HP.out] at h9
    have := HM.out
    have := HBG.out
    omega
  have hbd : decide (M > 1400) = false := decide_eq_false hbig
  have HM1 : Hid (0 ≤ M ∧ M ≤ 1400) := by have := HM.out; exact ⟨by omega, by omega⟩
  have HOK : Hid (FrOk fr ep tq pe ps) := ⟨HN.out, HALL.out, by rw [HP.out]; have := HM.out; omega⟩
  clear hbig
  have T0 : Hid (Btw V2 V1.heap.size V2.heap.size (.slice a9 P.length c9) P) := ⟨hB9, fun g hg => (OwB.lt hB9 g hg).2⟩
  clear hB9
  have hfr := HN.out.lo
  have k1 : IntKind.u8.wrap fr = fr := by have := hfr.1; rw [IntKind.wrap_u8]; omega
  have k2 : IntKind.u8.wrap tq = tq := by have := hfr.2.1; rw [IntKind.wrap_u8]; omega
  have k3 : IntKind.u8.wrap (ps.length : Int) = (ps.length : Int) := by have := hfr.2.2; rw [IntKind.wrap_u8]; omega
  clear hfr
  have hal := (Below.refl V2.heap.size V2).alloc (Nat.le_refl _) (.cells #[.int .u8 84, .int .u8 1, .int .u8 fr, .int .u8 tq] 5)
  have R0 := Lib.hid (own_lit4 V2 V2.heap.size 84 1 fr tq (Nat.le_refl _) V2.heap.size rfl)
  replace T0 := Lib.hid (T0.out.below hal)
  have SP0 : Hid (Sep V1.heap.size V2.heap.size (.slice (some ⟨V2.heap.size, 0, none⟩) 4 4)) := fun g hg => .inr (by simp [Value.ownBlock] at hg; omega)
  have HC0 := Lib.hid hal
  have OF0 := Lib.hid (OF.out.below hal)
  clear hal
  obtain ⟨S, hS⟩ : ∃ S, V2.heap.size = S := ⟨_, rfl⟩
  go_upto_region 8 with (fail)
  obtain ⟨W0, hW0⟩ : ∃ W0, V2.alloc (.cells #[.int .u8 84, .int .u8 1, .int .u8 fr, .int .u8 tq] 5) = W0 := ⟨_, rfl⟩
  rw [hW0] at R0 T0 HC0 OF0 ⊢
  clear hW0 u0 u1 u2 u3 u4
  rw [hS] at R0 T0 SP0 HC0
  have HSS := Lib.hid hS
  clear hS
  obtain ⟨⟨u0, u1, u2, u3, u4⟩, -⟩ := OF0.out
  go_wp2_with fail
  clear u0 u1 u2 u3 u4
  refine (gputE ep _ HN.out.2.2.1).mono ?_
  rintro e U0 ⟨r0, rfl, ho, hb⟩
  have R0b := Lib.hid (R0.out.below hb)
  have T0b := Lib.hid (T0.out.below hb)
  have OF0b := Lib.hid (OF0.out.below hb)
  have HC0b : Hid (Below S V2 U0) := HC0.out.trans (hb.mono (Nat.le_trans (Nat.le_of_eq HSS.out.symm) HC0.out.size))
  have HQ0 : Hid (S ≤ U0.heap.size) := Nat.le_trans (Nat.le_of_eq HSS.out.symm) HC0b.out.size
  have RR0 := Lib.hid ho
  clear ho hb
  obtain ⟨⟨u0, u1, u2, u3, u4⟩, -⟩ := OF0b.out
  go_wp2_with (at_builtin; (skip; refine app_sep9 rfl (.tmp 33) (.tmp 36) rfl S ([84, 1, fr, tq]) R0b.out W0.heap.size (lo ep 4) RR0.out (by have := HLN.out; simp [lo_len] <;> omega) HQ0.out ?_; intro v1 W1 ho9 hg9 hs9; (have HC1 : Hid (Below S V2 W1) := HC0b.out.grown hg9 (HQ0.out) (fun k hk => (R0b.out.lt k hk).1)); (have SP1 := Lib.hid (SP0.out.next HQ0.out hs9)); (have T1 := Lib.hid (T0b.out.grown SP0.out hg9)); (have OF1 := Lib.hid (OF.out.below (by rw [HSS.out]; exact HC1.out))); (have R1 := Lib.hid ho9); clear ho9 hg9 hs9; clear u0 u1 u2 u3 u4; obtain ⟨⟨u0, u1, u2, u3, u4⟩, -⟩ := OF1.out))
  clear u0 u1 u2 u3 u4
  refine (gputE pe _ HN.out.2.2.2.1).mono ?_
  rintro e U1 ⟨r1, rfl, ho, hb⟩
  have R1b := Lib.hid (R1.out.below hb)
  have T1b := Lib.hid (T1.out.below hb)
  have OF1b := Lib.hid (OF1.out.below hb)
  have HC1b : Hid (Below S V2 U1) := HC1.out.trans (hb.mono (Nat.le_trans (Nat.le_of_eq HSS.out.symm) HC1.out.size))
  have HQ1 : Hid (S ≤ U1.heap.size) := Nat.le_trans (Nat.le_of_eq HSS.out.symm) HC1b.out.size
  have RR1 := Lib.hid ho
  clear ho hb
  obtain ⟨⟨u0, u1, u2, u3, u4⟩, -⟩ := OF1b.out
  go_wp2_with (at_builtin; (skip; refine app_sep9 rfl (.tmp 38) (.tmp 41) rfl S ([84, 1, fr, tq] ++ lo ep 4) R1b.out W1.heap.size (lo pe 4) RR1.out (by have := HLN.out; simp [lo_len] <;> omega) HQ1.out ?_; intro v2 W2 ho9 hg9 hs9; (have HC2 : Hid (Below S V2 W2) := HC1b.out.grown hg9 (HQ1.out) (fun k hk => (R1b.out.lt k hk).1)); (have SP2 := Lib.hid (SP1.out.next HQ1.out hs9)); (have T2 := Lib.hid (T1b.out.grown SP1.out hg9)); (have OF2 := Lib.hid (OF.out.below (by rw [HSS.out]; exact HC2.out))); (have R2 := Lib.hid ho9); clear ho9 hg9 hs9; clear u0 u1 u2 u3 u4; obtain ⟨⟨u0, u1, u2, u3, u4⟩, -⟩ := OF2.out))
  clear u0 u1 u2 u3 u4
  refine (gputN M _ (by have := HM1.out; omega)).mono ?_
  rintro e U2 ⟨r2, rfl, ho, hb⟩
  have R2b := Lib.hid (R2.out.below hb)
  have T2b := Lib.hid (T2.out.below hb)
  have OF2b := Lib.hid (OF2.out.below hb)
  have HC2b : Hid (Below S V2 U2) := HC2.out.trans (hb.mono (Nat.le_trans (Nat.le_of_eq HSS.out.symm) HC2.out.size))
  have HQ2 : Hid (S ≤ U2.heap.size) := Nat.le_trans (Nat.le_of_eq HSS.out.symm) HC2b.out.size
  have RR2 := Lib.hid ho
  clear ho hb
  obtain ⟨⟨u0, u1, u2, u3, u4⟩, -⟩ := OF2b.out
  go_wp2_with (first
    | (at_builtin; (skip; refine app_sep9 rfl (.tmp 43) (.tmp 45) rfl S ([84, 1, fr, tq] ++ lo ep 4 ++ lo pe 4) R2b.out W2.heap.size (lo M 2) RR2.out (by have := HLN.out; simp [lo_len] <;> omega) HQ2.out ?_; intro v3 W3 ho9 hg9 hs9; (have HC3 : Hid (Below S V2 W3) := HC2b.out.grown hg9 (HQ2.out) (fun k hk => (R2b.out.lt k hk).1)); (have SP3 := Lib.hid (SP2.out.next HQ2.out hs9)); (have T3 := Lib.hid (T2b.out.grown SP2.out hg9)); (have OF3 := Lib.hid (OF.out.below (by rw [HSS.out]; exact HC3.out))); (have R3 := Lib.hid ho9); (have hal := (Below.refl W3.heap.size W3).alloc (Nat.le_refl _) (.cells #[.int .u8 (ps.length : Int)] 5)); (have R3b := Lib.hid (R3.out.below hal)); (have T3b := Lib.hid (T3.out.below hal)); (have HQ3a : Hid (S ≤ W3.heap.size) := Nat.le_trans (Nat.le_of_eq HSS.out.symm) HC3.out.size); (have HC3b : Hid (Below S V2 (W3.alloc (.cells #[.int .u8 (ps.length : Int)] 5))) := HC3.out.trans (hal.mono HQ3a.out)); (have HQ3 : Hid (S ≤ (W3.alloc (.cells #[.int .u8 (ps.length : Int)] 5)).heap.size) := Nat.le_trans HQ3a.out hal.size); (have RR3 := Lib.hid (own_lit1 W3 W3.heap.size (ps.length : Int) (Nat.le_refl _) W3.heap.size rfl)); clear hal; clear ho9 hg9 hs9; clear u0 u1 u2 u3 u4; obtain ⟨⟨u0, u1, u2, u3, u4⟩, -⟩ := OF3.out))
    | (at_builtin; (skip; refine app_sep9 rfl (.tmp 47) (.tmp 52) rfl S ([84, 1, fr, tq] ++ lo ep 4 ++ lo pe 4 ++ lo M 2) R3b.out W3.heap.size [(ps.length : Int)] RR3.out (by have := HLN.out; simp [lo_len] <;> omega) HQ3.out ?_; intro v4 W4 ho9 hg9 hs9; (have HC4 : Hid (Below S V2 W4) := HC3b.out.grown hg9 (HQ3.out) (fun k hk => (R3b.out.lt k hk).1)); (have SP4 := Lib.hid (SP3.out.next HQ3.out hs9)); (have T4 := Lib.hid (T3b.out.grown SP3.out hg9)); (have OF4 := Lib.hid (OF.out.below (by rw [HSS.out]; exact HC4.out))); (have R4 := Lib.hid ho9); (have R4b := R4); (have T4b := T4); (have HC4b := HC4); (have HQ4 : Hid (S ≤ W4.heap.size) := Nat.le_trans (Nat.le_of_eq HSS.out.symm) HC4.out.size); clear ho9 hg9 hs9; clear u0 u1 u2 u3 u4; obtain ⟨⟨u0, u1, u2, u3, u4⟩, -⟩ := OF4.out))
    | (at_builtin; (skip; refine app_sep9 rfl (.tmp 54) (.tmp 55) rfl S ([84, 1, fr, tq] ++ lo ep 4 ++ lo pe 4 ++ lo M 2 ++ [(ps.length : Int)]) R4b.out V1.heap.size P T4.out.1 (by have := HLN.out; simp [lo_len] <;> omega) HQ4.out ?_; intro v5 W5 ho9 hg9 hs9; (have HC5 : Hid (Below S V2 W5) := HC4b.out.grown hg9 (HQ4.out) (fun k hk => (R4b.out.lt k hk).1)); (have SP5 := Lib.hid (SP4.out.next HQ4.out hs9)); (have T5 := Lib.hid (T4b.out.grown SP4.out hg9)); (have OF5 := Lib.hid (OF.out.below (by rw [HSS.out]; exact HC5.out))); (have R5 := Lib.hid ho9); clear ho9 hg9 hs9; clear u0 u1 u2 u3 u4; obtain ⟨⟨u0, u1, u2, u3, u4⟩, -⟩ := OF5.out)))
  clear u0 u1 u2 u3 u4
  have hsp := frB_split fr ep tq pe ps M (sumN (frB0 fr ep tq pe ps)) P HP.out HM.out HM1.out.2 rfl
  have HR9 := Lib.hid R5.out
  rw [hsp.1] at HR9
  have HSP := Lib.hid hsp
  clear hsp
  obtain ⟨a8, c8, rfl⟩ := gown_form HR9.out
  have BS := Lib.hid (Bs_of_own HR9.out (frB0_byt HOK.out) (by rw [frB0_len, HP.out]; have := HLN.out; omega))
  refine (sum_any _ _ _ BS.out).mono ?_
  rintro e U9 ⟨rfl, hw⟩
  subst hw
  have hsb := sumN_bd (frB0 fr ep tq pe ps)
  generalize sumN (frB0 fr ep tq pe ps) = Z at *
  go_wp2_with fail
  refine (gputN Z _ hsb).mono ?_
  rintro e U8 ⟨r8, rfl, ho, hb⟩
  have R8 := Lib.hid (HR9.out.below hb)
  have HC8 : Hid (Below S V2 U8) := HC5.out.trans (hb.mono (Nat.le_trans (Nat.le_of_eq HSS.out.symm) HC5.out.size))
  have HQ8 : Hid (S ≤ U8.heap.size) := Nat.le_trans (Nat.le_of_eq HSS.out.symm) HC8.out.size
  have RR8 := Lib.hid ho
  clear ho hb
  go_wp2_with (at_builtin; (skip; refine app_sep9 rfl (.tmp 57) (.tmp 60) rfl S (frB0 fr ep tq pe ps) R8.out W5.heap.size (lo Z 2) RR8.out (by have := HLN.out; rw [frB0_len, HP.out, lo_len]; omega) HQ8.out ?_; intro v9 W9 ho9 hg9 hs9; (have HC9 : Hid (Below S V2 W9) := HC8.out.grown hg9 HQ8.out (fun k hk => (R8.out.lt k hk).1)); (have R9 := Lib.hid ho9); clear ho9 hg9 hs9))
  go_ret2
  rw [HSP.out.2] at R9
  exact retf_ok HOK.out (own_mono R9.out (Nat.le_trans HB.out.size (Nat.le_of_eq HSS.out))) (HB.out.trans (HC9.out.mono (Nat.le_trans HB.out.size (Nat.le_of_eq HSS.out))))
theorem gcheck_any (fr ep tq pe : Int) (a : Option Addr) (c : Nat) (ps : List Pt) (w : World) (h : Ps w (.slice a ps.length c) ps) (hf : ∀ i, i < ps.length → PtFew (ps.getD i zPt)) : Calls Tryz.prog 27 #[.agg #[.int .i64 fr, .int .i64 ep, .int .i64 tq, .int .i64 pe, .slice a ps.length c]] w fun e w' => e = .returned (.int .i64 (frK fr ep tq pe ps)) ∧ Below w.heap.size w w' := by
  have OF := Lib.hid (ownf_alloc w fr ep tq pe (.slice a ps.length c) 42 w.heap.size rfl)
  have HB : Hid (Below w.heap.size w (w.alloc (.cells #[.int .i64 fr, .int .i64 ep, .int .i64 tq, .int .i64 pe, .slice a ps.length c] 42))) := (Below.refl _ w).alloc (Nat.le_refl _) _
  have cB := Lib.hid (gbytes_any fr ep tq pe a c ps _ (h.below HB.out) hf)
  clear h hf
  obtain ⟨⟨u0, u1, u2, u3, u4⟩, -⟩ := OF.out
  go_enter Tryz.func27, Tryz.ntmps27
  go_wp2_with fail
  refine cB.out.mono ?_
  rintro e V1 ⟨⟨a9, c9, rfl, -, -, -⟩, hb⟩
  have HB2 := Lib.hid (HB.out.trans (hb.mono HB.out.size))
  clear hb u0 u1 u2 u3 u4
  go_wp2_with fail
  go_ret
  exact ⟨rfl, HB2.out⟩
set_option maxHeartbeats 4000000 in
theorem gfor_any (fr ep tq pe : Int) (a : Option Addr) (c : Nat) (ps : List Pt) (id : Int) (w : World) (h : Ps w (.slice a ps.length c) ps) (hf : ∀ i, i < ps.length → PtFew (ps.getD i zPt)) :
    Calls Tryz.prog 41 #[.agg #[.int .i64 fr, .int .i64 ep, .int .i64 tq, .int .i64 pe, .slice a ps.length c], .int .i64 id] w fun e w' => e = .returned (.bool (decide (FrOk fr ep tq pe ps ∧ fr ≠ id ∧ (tq = id ∨ tq = 255)))) ∧ Below w.heap.size w w' := by
  have OF := Lib.hid (ownf_alloc w fr ep tq pe (.slice a ps.length c) 42 w.heap.size rfl)
  have HB : Hid (Below w.heap.size w (w.alloc (.cells #[.int .i64 fr, .int .i64 ep, .int .i64 tq, .int .i64 pe, .slice a ps.length c] 42))) := (Below.refl _ w).alloc (Nat.le_refl _) _
  have cC := Lib.hid (gcheck_any fr ep tq pe a c ps _ (h.below HB.out) hf)
  clear h hf
  obtain ⟨⟨u0, u1, u2, u3, u4⟩, -⟩ := OF.out
  by_cases hok : FrOk fr ep tq pe ps
  rotate_left
  · skip
    have HK : frK fr ep tq pe ps = 1 := if_neg hok
    rw [show decide (FrOk fr ep tq pe ps ∧ fr ≠ id ∧ (tq = id ∨ tq = 255)) = false from decide_eq_false (fun h => hok h.1)]
    rw [HK] at cC
    clear HK
    go_enter Tryz.func41, Tryz.ntmps41
    go_wp2_with fail
    refine cC.out.mono ?_
    rintro e V1 ⟨rfl, hb⟩
    have HB2 := Lib.hid (HB.out.trans (hb.mono HB.out.size))
    have OF2 := Lib.hid (OF.out.below hb)
    clear hb u0 u1 u2 u3 u4
    obtain ⟨⟨u0, u1, u2, u3, u4⟩, -⟩ := OF2.out
    go_wp2_with fail
    go_ret
    exact ⟨rfl, HB2.out⟩
  by_cases h1 : fr = id
  · skip
    have HK : frK fr ep tq pe ps = 0 := if_pos hok
    have b1 : (fr != id) = false := by simp [h1]
    rw [show decide (FrOk fr ep tq pe ps ∧ fr ≠ id ∧ (tq = id ∨ tq = 255)) = false from decide_eq_false (fun h => h.2.1 h1)]
    rw [HK] at cC
    clear HK h1 hok
    go_enter Tryz.func41, Tryz.ntmps41
    go_wp2_with fail
    refine cC.out.mono ?_
    rintro e V1 ⟨rfl, hb⟩
    have HB2 := Lib.hid (HB.out.trans (hb.mono HB.out.size))
    have OF2 := Lib.hid (OF.out.below hb)
    clear hb u0 u1 u2 u3 u4
    obtain ⟨⟨u0, u1, u2, u3, u4⟩, -⟩ := OF2.out
    go_wp2_with fail
    go_ret
    exact ⟨rfl, HB2.out⟩
  by_cases h2 : tq = id
  · skip
    have HK : frK fr ep tq pe ps = 0 := if_pos hok
    have b1 : (fr != id) = true := by simpa using h1
    have b2 : (tq == id) = true := by simpa using h2
    rw [show decide (FrOk fr ep tq pe ps ∧ fr ≠ id ∧ (tq = id ∨ tq = 255)) = true from decide_eq_true ⟨hok, h1, .inl h2⟩]
    rw [HK] at cC
    clear HK h1 h2 hok
    go_enter Tryz.func41, Tryz.ntmps41
    go_wp2_with fail
    refine cC.out.mono ?_
    rintro e V1 ⟨rfl, hb⟩
    have HB2 := Lib.hid (HB.out.trans (hb.mono HB.out.size))
    have OF2 := Lib.hid (OF.out.below hb)
    clear hb u0 u1 u2 u3 u4
    obtain ⟨⟨u0, u1, u2, u3, u4⟩, -⟩ := OF2.out
    go_wp2_with fail
    go_ret
    exact ⟨rfl, HB2.out⟩
  by_cases h3 : tq = 255
  · skip
    have HK : frK fr ep tq pe ps = 0 := if_pos hok
    have b1 : (fr != id) = true := by simpa using h1
    have b2 : (tq == id) = false := by simpa using h2
    have b3 : (tq == 255) = true := by simpa using h3
    rw [show decide (FrOk fr ep tq pe ps ∧ fr ≠ id ∧ (tq = id ∨ tq = 255)) = true from decide_eq_true ⟨hok, h1, .inr h3⟩]
    rw [HK] at cC
    clear HK h1 h2 h3 hok
    go_enter Tryz.func41, Tryz.ntmps41
    go_wp2_with fail
    refine cC.out.mono ?_
    rintro e V1 ⟨rfl, hb⟩
    have HB2 := Lib.hid (HB.out.trans (hb.mono HB.out.size))
    have OF2 := Lib.hid (OF.out.below hb)
    clear hb u0 u1 u2 u3 u4
    obtain ⟨⟨u0, u1, u2, u3, u4⟩, -⟩ := OF2.out
    go_wp2_with fail
    go_ret
    exact ⟨rfl, HB2.out⟩
  have HK : frK fr ep tq pe ps = 0 := if_pos hok
  have b1 : (fr != id) = true := by simpa using h1
  have b2 : (tq == id) = false := by simpa using h2
  have b3 : (tq == 255) = false := by simpa using h3
  rw [show decide (FrOk fr ep tq pe ps ∧ fr ≠ id ∧ (tq = id ∨ tq = 255)) = false from decide_eq_false (fun h => by rcases h.2.2 with h | h; exact h2 h; exact h3 h)]
  rw [HK] at cC
  clear HK h1 h2 h3 hok
  go_enter Tryz.func41, Tryz.ntmps41
  go_wp2_with fail
  refine cC.out.mono ?_
  rintro e V1 ⟨rfl, hb⟩
  have HB2 := Lib.hid (HB.out.trans (hb.mono HB.out.size))
  have OF2 := Lib.hid (OF.out.below hb)
  clear hb u0 u1 u2 u3 u4
  obtain ⟨⟨u0, u1, u2, u3, u4⟩, -⟩ := OF2.out
  go_wp2_with fail
  go_ret
  exact ⟨rfl, HB2.out⟩
end Go.Proofs.YthnajpckhoomgaaGreat
