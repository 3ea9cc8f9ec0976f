/-
  thalweglaw01.WireSums: for any bytes b, place at and byte x the law answers true; no condition.
-/
import Derived.Test.YteofjlcaokajeaaRows
import Derived.Test.YteofjlcaokajeaaPlain
import Derived.BigQuiet
import Derived.Deep.QuietTactic
import Derived.IntWalk
import Derived.WalkKit
import Derived.ProofKit
import Derived.OpenShut
import Derived.ShutString
import Derived.ChangeOld
import Derived.Below
namespace Go.Proofs.Yteofjlcaokajeaa.wireSums
open Go.ChangeShapes Go.WideShapes Go.ChangeAt Go.RowKit
open Go.ChangeMaps (open_string shut_string)
set_option linter.unusedVariables false

theorem own : ownKnob Try.prog.godebug = none := by kernel_rfl
theorem laidOut : laidOutB Try.prog = true := by kernel_rfl

def IsRow (k : IntKind) (w : World) (a : Option Addr) (len cap : Nat) (zs : List Int) : Prop :=
  (a = none ∧ len = 0 ∧ cap = 0 ∧ zs = []) ∨
  ∃ x, a = some x ∧ len ≤ cap ∧ cap ≤ maxLen ∧ zs.length = cap ∧ (∀ i, i < zs.length → w.cell? (x.add i) = some (.int k (zs.getD i 0))) ∧ ∀ n ∈ zs, (Lit.int k n).wf = true

theorem bs_of {w : World} {a : Option Addr} {len cap : Nat} {zs : List Int} (h : IsRow .u8 w a len cap zs) : Bs w (.slice a len cap) (zs.take len) ∧ (zs.take len).length = len := by
  rcases h with ⟨rfl, rfl, rfl, rfl⟩ | ⟨x, rfl, hl, hm, hz, hcell, hwz⟩
  · exact ⟨Bs_nil w, rfl⟩
  · have hlen : (zs.take len).length = len := by rw [List.length_take]; omega
    refine ⟨⟨fun n hn => ?_, by rw [hlen]; unfold maxLen at hm; omega, ?_⟩, hlen⟩
    · have := hwz n (List.take_subset _ _ hn)
      have b := bounds_u8 this
      omega
    · by_cases h0 : len = 0
      · subst h0; exact .inl ⟨some x, cap, rfl, (fun h => by cases h), by simp⟩
      · right
        obtain ⟨b, off, spot⟩ := x
        have hc := hcell 0 (by omega)
        have hspot : spot = none := by simpa [Addr.add] using World.cell?_spot hc
        subst hspot
        refine ⟨b, off, cap, by rw [hlen], by rw [hlen]; exact hl, fun i hi => ?_⟩
        have hi' : i < len := by omega
        have := hcell i (by omega)
        have hadd : (⟨b, off, none⟩ : Addr).add i = ⟨b, off + i, none⟩ := by unfold Addr.add; split <;> simp_all
        rw [hadd] at this
        rw [this]
        simp [List.getD, hi']
theorem drewN_below (w : World) (n : Nat) : Below w.heap.size w (w.drewN n) := ⟨by simp [World.drewN], by simp [World.drewN], by simp [World.drewN], by simp [World.drewN], fun k _ => by simp [World.drewN]⟩
theorem own_shape {w : World} {B n : Nat} {r : Value} {l : List Value} (h : w.ownsRow B 5 1 r n l) (hn : 0 < n) : ∃ g cap, r = .slice (some ⟨g, 0, none⟩) n cap ∧ B ≤ g := by
  rcases h.2 with ⟨_, h0⟩ | ⟨g, cap, cur, rfl, hb, _⟩
  · omega
  · exact ⟨g, cap, rfl, hb⟩
/-- A byte stored in a row of the call's own. -/
theorem own_store {w : World} {B g cap n : Nat} {xs : List Int} (h : w.ownsRow B 5 1 (.slice (some ⟨g, 0, none⟩) n cap) n (xs.map (Value.int .u8))) (k : Nat) (x : Int) :
    (w.setCell ⟨g, k, none⟩ (.int .u8 x)).ownsRow B 5 1 (.slice (some ⟨g, 0, none⟩) n cap) n ((xs.set k x).map (Value.int .u8)) := by
  have := (h.stored k (.int .u8 x)).1
  rwa [← List.map_set] at this
theorem Bs_of_row' {w : World} {B n : Nat} {r : Value} {xs : List Int} (h : w.ownsRow B 5 1 r n (xs.map (Value.int .u8))) (hx : ∀ x ∈ xs, 0 ≤ x ∧ x < 256) (hl : xs.length ≤ 1000) : Bs w r xs := Bs_of_own h hx (by omega)
theorem set_bytes {xs : List Int} (hx : ∀ x ∈ xs, 0 ≤ x ∧ x < 256) {k : Nat} {y : Int} (hy : 0 ≤ y ∧ y ≤ 255) : ∀ x ∈ xs.set k y, 0 ≤ x ∧ x < 256 := by
  intro x h
  rcases List.mem_or_eq_of_mem_set h with h | h
  · exact hx x h
  · omega

set_option maxHeartbeats 4000000 in
theorem walk (a0 : Option Addr) (len0 cap0 : Nat) (z0 : List Int) (a1 : Int) (a2 : Int) (w : World) (w0 : IsRow .u8 w a0 len0 cap0 z0) (w1 : (Lit.int .i64 a1).wf = true) (w2 : (Lit.int .u8 a2).wf = true) :
    Calls Try.prog 7 #[.slice a0 len0 cap0, .int .i64 a1, .int .u8 a2] w fun e w' => e = .returned (.bool true) ∧ Below w.heap.size w w' := by
  obtain ⟨hb, hlen⟩ := bs_of w0
  generalize z0.take len0 = xs at hb hlen
  subst hlen
  clear w0
  have hx := bounds_u8 w2
  by_cases c1 : (500 : Int) < (xs.length : Int) ∨ a1 < 0 ∨ (xs.length : Int) ≤ a1
  · rcases c1 with c1 | c1 | c1
    all_goals
      go_enter Try.func7, Try.ntmps7
      go_wp2_with (first | (go_at_call 13; refine (awake_any _).mono ?_; rintro e W3 ⟨rfl, hb3⟩))
      all_goals
        go_ret
        exact ⟨rfl, by assumption⟩
  have s1 : (xs.length : Int) ≤ 500 := by omega
  have s2 : 0 ≤ a1 := by omega
  have s3 : a1 < (xs.length : Int) := by omega
  clear c1
  obtain ⟨k, rfl⟩ := Int.eq_ofNat_of_zero_le s2
  have hk : k < xs.length := by omega
  have hxs := Lib.hid hb.1
  have HbW := Lib.hid hb
  have hb0 := hb
  obtain ⟨_, _, ⟨a, cap, hv, _, rfl⟩ | ⟨b, off, cap, hv, hcap, hc⟩⟩ := hb0
  · simp at hk
  injection hv with hv1 hv2 hv3
  subst hv1 hv3
  clear hv2
  obtain ⟨c, hg, b1, b2, hck⟩ := Bs_at hxs.out hc k hk
  have hnext := Lib.hid (fun h => Bs_at hxs.out hc (k + 1) h)
  have hckH := Lib.hid hck
  go_enter Try.func7, Try.ntmps7
  go_wp2_with fail
  refine (both1 hb _ (by omega)).mono ?_
  rintro e W1 ⟨r, rfl, ho, _, hb1⟩
  obtain ⟨g, cp, rfl, hgb⟩ := own_shape ho (by omega)
  have hgb' : w.heap.size < g := by have : w.heap.size + 1 ≤ g := by simpa using hgb
                                    omega
  have hbel : Below w.heap.size w W1 := ((Below.refl _ w).alloc (Nat.le_refl _) _).trans (hb1.mono (by simp))
  have hcell := ho.cellAt k (by omega)
  rw [show (xs.map (Value.int .u8))[k]? = some (.int .u8 c) by have := hg.out; simp only [List.getD, hk, List.getElem?_eq_getElem, Option.getD_some] at this; simp [hk, this]] at hcell
  have hfz := ho.frozenAt k
  have hblt : b < w.heap.size := World.block_lt_of_cell? w _ hck
  have hck1 : W1.cell? ⟨b, off + k, none⟩ = some (.int .u8 c) := by rw [hbel.cell hblt]; exact hck
  have hne : ¬ g = b := by omega
  have hck2 : (W1.setCell ⟨g, k, none⟩ (.int .u8 a2)).cell? ⟨b, off + k, none⟩ = some (.int .u8 c) := by
    rw [World.cell?_setCell_other _ _ _ _ (by intro h; injection h with h; exact hne h)]; exact hck1
  have hbel2 : Below w.heap.size w (W1.setCell ⟨g, k, none⟩ (.int .u8 a2)) := hbel.setCell (by show w.heap.size ≤ g; omega) _
  have ho2 := own_store ho k a2
  have hB1 := Lib.hid (Bs_below hb hbel2)
  have hB2 := Lib.hid (Bs_of_row' ho2 (set_bytes hxs.out hx) (by rw [List.length_set]; omega))
  have HB := Lib.hid hbel2
  have hs1 := Lib.hid (sum_set_b xs k a2 hk)
  rw [hg.out] at hs1
  clear hb hb1 hbel hbel2 ho ho2 hgb hck hc
  go_wp2_with fail
  refine (sum_any _ xs _ hB1.out).mono ?_
  rintro e W2 ⟨rfl, rfl⟩
  go_wp2_with fail
  refine (sum_any _ _ _ hB2.out).mono ?_
  rintro e W2 ⟨rfl, rfl⟩
  generalize sumN xs = A at hs1
  have hs1b : (!(A == sumN (xs.set k a2)) == ((a2 - c).tmod 251 == 0)) = false := by
    rw [hs1.out]; cases ((a2 - c).tmod 251 == 0) <;> rfl
  by_cases hend : (k : Int) + 1 = (xs.length : Int)
  · have he : ((k : Int) + 1 == (xs.length : Int)) = true := beq_iff_eq.2 hend
    clear hend
    go_wp2_with fail
    refine (awake_any _).mono ?_
    rintro e W3 ⟨rfl, hb3⟩
    go_wp2_with fail
    go_ret
    exact ⟨rfl, HB.out.trans (hb3.mono HB.out.size)⟩
  have he : ((k : Int) + 1 == (xs.length : Int)) = false := beq_eq_false_iff_ne.2 hend
  have hk1 : k + 1 < xs.length := by omega
  have i1 : (k : Int) + 1 < (xs.length : Int) := by omega
  clear hend
  go_wp2_with fail
  have hb' := hB1.out
  have hsz := Lib.hid (show W1.heap.size = (W1.setCell ⟨g, k, none⟩ (.int .u8 a2)).heap.size by simp)
  refine (both1g hb' _ (by omega) _ hsz.out).mono ?_
  rintro e W3 ⟨r, rfl, ho, _, hb3⟩
  obtain ⟨g2, cp2, rfl, hgb2⟩ := own_shape ho (by omega)
  clear hck1 hck2 hcell hfz hne hs1 hs1b
  generalize W1.setCell ⟨g, k, none⟩ (.int .u8 a2) = W2 at *
  have hgb3 : w.heap.size < g2 := by have h1 : W2.heap.size + 1 ≤ g2 := by simpa using hgb2
                                     have := HB.out.size; omega
  have hbel3 : Below w.heap.size w W3 := HB.out.trans ((((Below.refl _ W2).alloc (Nat.le_refl _) _).trans (hb3.mono (by simp))).mono HB.out.size)
  obtain ⟨c', hg', b1', b2', hck'⟩ := hnext.out hk1
  have hbw : ∀ {W : World} {o : Nat} {v : Value}, Below w.heap.size w W → w.cell? ⟨b, o, none⟩ = some v → W.cell? ⟨b, o, none⟩ = some v := fun h hc => by rw [h.cell hblt]; exact hc
  have p1 := hbw hbel3 hck'
  have hget : ∀ (l : List Int) (j : Nat), j < l.length → (l.map (Value.int .u8))[j]? = some (.int .u8 (l.getD j 0)) := fun l j h => by simp [List.getD, h]
  have p2 := ho.cellAt k (by omega)
  rw [hget xs k hk] at p2
  have p3 := ho.frozenAt k
  have ho1 := own_store ho k c'
  have hbel4 : Below w.heap.size w (W3.setCell ⟨g2, k, none⟩ (.int .u8 c')) := hbel3.setCell (by show w.heap.size ≤ g2; omega) _
  have p4 := hbw hbel4 hckH.out
  have p5 := ho1.cellAt (k + 1) (by omega)
  rw [hget _ (k + 1) (by rw [List.length_set]; exact hk1)] at p5
  have p6 := ho1.frozenAt (k + 1)
  have ho2 := own_store ho1 (k + 1) c
  have hbel5 : Below w.heap.size w ((W3.setCell ⟨g2, k, none⟩ (.int .u8 c')).setCell ⟨g2, k + 1, none⟩ (.int .u8 c)) := hbel4.setCell (by show w.heap.size ≤ g2; omega) _
  have p7 := hbw hbel5 hckH.out
  have p8 := hbw hbel5 hck'
  have hs2 := Lib.hid (sum_swap_b xs k hk1)
  rw [hg.out, hg'.out] at hs2
  have HB5 := Lib.hid hbel5
  have HO := Lib.hid ho2
  have hgw := Lib.hid hgb3
  have hne : ¬ g2 = b := by omega
  have i2 : (k : Int) < (xs.length : Int) := by omega
  clear hbel5 hbel4 hbel3 ho ho1 ho2 hbw hget hnext hckH hck' hgb2 hb3 hb'
  generalize (xs.set k c').getD (k + 1) 0 = dd at p5
  generalize xs.getD k 0 = d0 at p2
  go_wp2_with fail
  have G1 := Lib.hid (Bs_below HbW.out HB5.out)
  have G2 := Lib.hid (Bs_of_row' HO.out (set_bytes (set_bytes hxs.out (by omega)) (by omega)) (by rw [List.length_set, List.length_set]; omega))
  generalize (W3.setCell ⟨g2, k, none⟩ (.int .u8 c')).setCell ⟨g2, k + 1, none⟩ (.int .u8 c) = W5 at *
  clear p1 p2 p3 p4 p5 p6
  have j1 : IntKind.i64.wrap ((k : Int) + 1) = (k : Int) + 1 := IntWalk.i64_in _ (by omega)
  have j2 : (0 : Int) ≤ (k : Int) + 1 := by omega
  have j3 : ((k : Int) + 1).toNat = k + 1 := by omega
  have j4 : IntKind.i64.wrap (c - c') = c - c' := IntWalk.i64_in _ (by omega)
  have j5 : IntKind.i64.wrap c = c := IntWalk.i64_in _ (by omega)
  have j6 : IntKind.i64.wrap c' = c' := IntWalk.i64_in _ (by omega)
  go_quiet (fail)
  have HQ := Lib.hid (HB5.out.trans ((drewN_below W5 nq).mono HB5.out.size))
  have Q1 := Bs_below G1.out (drewN_below W5 nq)
  have Q2 := Bs_below G2.out (drewN_below W5 nq)
  clear p7 p8 j1 j2 j3 j4 j5 j6 G1 G2 HO HB5
  generalize W5.drewN nq = W6 at *
  go_wp2_with fail
  refine (awake_any _).mono ?_
  rintro e W7 ⟨rfl, hb7⟩
  have R1 := Bs_below Q1 hb7
  have R2 := Bs_below Q2 hb7
  have H7 := Lib.hid (HQ.out.trans (hb7.mono HQ.out.size))
  clear Q1 Q2 hb7
  go_wp2_with fail
  refine (sum_any _ xs _ R1).mono ?_
  rintro e W8 ⟨rfl, rfl⟩
  go_wp2_with fail
  refine (sum_any _ _ _ R2).mono ?_
  rintro e W8 ⟨rfl, rfl⟩
  go_wp2_with fail
  go_ret
  exact ⟨congrArg (fun b => Ending.returned (Value.bool b)) (by rw [hs2.out]; exact beq_self_eq_true _), H7.out⟩

set_option maxRecDepth 100000 in
theorem lifted (os : Os) (started : os.Started) (H : Type) (enc : TypeId × Value → H) :
    ReturnsInHanded {} Try.checked os 7 .any (Rows.wireSumsSpec.pre6 enc Try.prog Try.f7 Rows.wireSumsRow.domain false) (Rows.wireSumsSpec.post enc Try.prog Try.f7 false true false false) := by
  refine returnsInHanded_of_change (C := Try.checked) own started (by kernel_rfl) Try.func7
    (ChangeSpec.witness6 (enc := enc) (C := Try.checked) false ⟨#[], #[.slice none 0 0, .int .i64 0, .int .u8 0], []⟩ 8 (by kernel_rfl) (by kernel_rfl) (by kernel_rfl) (by kernel_rfl)) ?_
  intro W base args ds gs before hval0 hW hcnd _
  have hval : ∀ (j : Nat) t v, Try.f7.params[j]? = some t → args[j]? = some v → Value.okWide Try.prog W .any base t v := hval0
  have hW' := hW
  obtain ⟨p, q, hA0, hV, rfl, hfz, hnd⟩ := hW
  have hA : DataW.TrodAll enc Try.prog W 0 (fun _ => true) true Try.f7.params.toList args.toList ds p := hA0
  rw [Try.params7] at hA hval
  obtain ⟨v0, vs0, d0, ds0, p0, q0, hargs, rfl, rfl, h0, r0⟩ := trodAll_cons hA
  obtain ⟨v1, vs1, d1, ds1, p1, q1, rfl, rfl, rfl, h1, r1⟩ := trodAll_cons r0
  obtain ⟨v2, vs2, d2, ds2, p2, q2, rfl, rfl, rfl, h2, r2⟩ := trodAll_cons r1
  obtain ⟨rfl, rfl, rfl⟩ := trodAll_nil r2
  obtain rfl : args = #[v0, v1, v2] := by cases args; simp_all
  obtain ⟨rfl, rfl⟩ := trodVars_none hV
  obtain ⟨a0, len0, cap0, rfl⟩ := okWide_slice Try.underlying22 (hval 0 22 v0 rfl rfl)
  have k0 := h0
  have lt0 : ∀ x ∈ p0, x.block < W.heap.size := by obtain ⟨m, hm⟩ := k0; exact DataW.trod_lt m _ _ _ hm
  obtain ⟨z0, w0⟩ : ∃ zs, IsRow .u8 W a0 len0 cap0 zs := by
    obtain ⟨fuel, hf⟩ := h0
    rcases open_ints Try.underlying22 Try.underlying5 (by kernel_rfl) hf with ⟨hcs, _⟩ | ⟨x, l, c, zs, hcs, _, hl, hm, hz, _, hcell, hwz⟩
    · simp [Value.cells] at hcs
      obtain ⟨rfl, rfl, rfl⟩ := hcs
      exact ⟨[], .inl ⟨rfl, rfl, rfl, rfl⟩⟩
    · simp [Value.cells] at hcs
      obtain ⟨rfl, rfl, rfl⟩ := hcs
      exact ⟨zs, .inr ⟨_, rfl, hl, hm, by simpa using hz, hcell, hwz⟩⟩
  obtain ⟨a1, rfl, rfl, rfl, w1⟩ := open_int Try.underlying3 (hval 1 3 v1 rfl rfl) h1
  obtain ⟨a2, rfl, rfl, rfl, w2⟩ := open_int Try.underlying5 (hval 2 5 v2 rfl rfl) h2
  clear hA0 hval0
  refine (walk a0 len0 cap0 z0 a1 a2 W w0 w1 w2).mono fun e W' ⟨he, bel⟩ => ?_
  subst he
  exact ⟨_, rfl, _, _, _, [], _, [], hW', trodAll_mk1 (shut_bool Try.underlying4 _), (trodAll_cons_mk (Below.trod laidOut (by kernel_rfl) (of_decide_eq_true (by kernel_rfl)) k0 bel lt0) (trodAll_cons_mk (shut_int Try.underlying3 w1) (trodAll_cons_mk (shut_int Try.underlying5 w2) trodAll_mk0))), rfl, bel.frame _, fun h => by cases h⟩

theorem over : Rows.wireSumsRow.holds Try.pinned (OpenSpec.ofChange Rows.wireSumsSpec) :=
  OpenClaim.holds_of_wide 7 Try.f7 rfl rfl rfl rfl rfl rfl rfl ⟨rfl, rfl, rfl, rfl, rfl⟩ rfl rfl rfl rfl rfl (by kernel_rfl) Try.func7 (by kernel_rfl)
    (of_decide_eq_true (by kernel_rfl)) (by unfold Func.isWrapper; first | (rw [if_pos (by decide +kernel)]; kernel_rfl) | (rw [if_neg (by decide +kernel)]; exact ⟨rfl, rfl⟩))
    (fun os started H enc _ => lifted os started H enc)

theorem proved : Rows.WireSumsSaid := over
#print axioms proved
end Go.Proofs.Yteofjlcaokajeaa.wireSums
