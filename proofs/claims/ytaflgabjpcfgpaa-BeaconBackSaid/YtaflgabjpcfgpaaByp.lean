/- A beacon as bytes: the program's Bytes. No conditions but on lengths. -/
import Derived.Test.YtaflgabjpcfgpaaByr
namespace Go.Proofs.Ytaflgabjpcfgpaa
set_option maxRecDepth 100000
open Go.RowKit
attribute [local go_sem] Oper.semAt_some

theorem pput4 (v : Int) (w : World) (h : EpOk v) : Calls Try.prog 24 #[.int .i64 v, .int .i64 4] w fun e w' => ∃ r, e = .returned (.tuple #[r, .int .i64 0]) ∧ OwB w' w.heap.size r (lo v 4) ∧ Below w.heap.size w w' := by
  refine (put_own v 4 w ⟨h.1, by have := h.2; show v < 256 * (256 * (256 * (256 * 1))); omega⟩ (by decide) (by decide)).mono fun e w' ⟨r, h1, h2, h3⟩ => ⟨r, h1, ?_, h3⟩
  unfold OwB
  rw [lo_len]
  exact h2
theorem bytes9_no (M : Int) (v : Value) (ys : List (Int × Int)) (w : World) (hE : El w v ys) (hl : ys.length ≤ 3000) (h : ¬ BeOk M ys) :
    Calls Try.prog 9 #[.agg #[.int .i64 M, v]] w fun e w' => e = .returned (.tuple #[.slice none 0 0, .int .i64 1]) ∧ Below w.heap.size w w' := by
  obtain ⟨a, c, rfl⟩ := hE.1.form
  have CR := Lib.hid (check_fix M (.slice a ys.length c) ys false ⟨fun hf => (by cases hf), fun h' => absurd h' h⟩ (w.alloc (.cells #[.int .i64 M, .slice a ys.length c] 24)) (hE.alloc _) hl)
  have HB : Hid (Below w.heap.size w (w.alloc (.cells #[.int .i64 M, .slice a ys.length c] 24))) := (Below.refl _ w).alloc (Nat.le_refl _) _
  clear hE
  go_enter Try.func9, Try.ntmps9
  go_wp2_with fail
  refine CR.out.mono ?_
  rintro e w2 ⟨rfl, hb⟩
  have HB2 := Lib.hid (HB.out.trans (hb.mono HB.out.size))
  clear hb
  go_wp2_with fail
  go_ret2
  exact ⟨rfl, HB2.out⟩

/-- The bytes of what has come. -/
def preB (M L : Int) (pre : List ((Int × Int) × (Int × Int))) : List Int := lo M 4 ++ [L] ++ ((seconds pre).map ecB).flatten
theorem preB_snoc (M L : Int) (pre : List ((Int × Int) × (Int × Int))) (x : (Int × Int) × (Int × Int)) : preB M L (pre ++ [x]) = (preB M L pre ++ [x.2.1]) ++ lo x.2.2 4 := by
  unfold preB
  rw [seconds_snoc, List.map_append, List.flatten_append]
  simp [ecB]
theorem preB_len (M L : Int) (pre : List ((Int × Int) × (Int × Int))) : (preB M L pre).length = 5 + 5 * pre.length := by
  unfold preB
  have := ecB_flat_len (seconds pre)
  simp only [List.length_append, lo_len, List.length_cons, List.length_nil, this]
  simp [seconds]
theorem OwB.same {w w' : World} {S : Nat} {v : Value} {xs : List Int} (h : OwB w S v xs) (hs : ∀ b, v.ownBlock = some b → w'.heap[b]? = w.heap[b]?) : OwB w' S v xs := by
  refine ⟨h.1, ?_⟩
  rcases h.2 with h2 | ⟨g, cap, cur, rfl, h3, hg, rest⟩
  · exact .inl h2
  · exact .inr ⟨g, cap, cur, rfl, h3, (hs g rfl).trans hg, rest⟩
def I9 (w : World) (M L : Int) (bx Bl : Nat) (pre : List ((Int × Int) × (Int × Int))) (W : World) : Prop :=
  (∃ v, Boxed W bx 26 v ∧ OwB W (w.heap.size + 1) v (preB M L pre) ∧ ∀ k, v.ownBlock = some k → k < Bl ∨ Bl + 5 ≤ k) ∧ Below w.heap.size w W
theorem abK_9 (w : World) (M L : Int) (bx Bl : Nat) (h1 : bx < Bl) (h2 : w.heap.size ≤ Bl) : AbK (Bl + 1) (Bl + 1 + 2 + 2) (I9 w M L bx Bl) := by
  rintro s W W' row ⟨⟨v, hb, ho, hk⟩, hbel⟩ hg hr
  refine ⟨⟨v, hb.kept hg (fun e => by have := hr _ e.symm; omega), World.ownsRow.kept ho hg ?_, hk⟩, hbel.grown hg hbel.size (fun k e => by have := hr k e; omega)⟩
  cases hq : v.ownBlock with
  | none => exact .inl rfl
  | some q => exact .inr (fun e => by have := hr q e.symm; have := hk q hq; omega)

set_option maxHeartbeats 32000000 in
theorem bytes9_ok (M : Int) (v : Value) (ys : List (Int × Int)) (w : World) (hE : El w v ys) (h : BeOk M ys) :
    Calls Try.prog 9 #[.agg #[.int .i64 M, v]] w fun e w' => (∃ r, e = .returned (.tuple #[r, .int .i64 0]) ∧ OwB w' w.heap.size r (beB M ys)) ∧ Below w.heap.size w w' := by
  obtain ⟨a, c, rfl⟩ := hE.1.form
  have hl := h.len
  obtain ⟨W1, hW1⟩ : ∃ W1, W1 = w.alloc (.cells #[.int .i64 M, .slice a ys.length c] 24) := ⟨_, rfl⟩
  have hs1 : W1.heap.size = w.heap.size + 1 := by rw [hW1]; simp
  have hb1 : Below w.heap.size w W1 := by rw [hW1]; exact (Below.refl _ w).alloc (Nat.le_refl _) _
  have HB := Lib.hid hb1
  have OX : Hid (OwnB2 W1 w.heap.size M (.slice a ys.length c)) := by rw [hW1]; exact ownb2_alloc w M (.slice a ys.length c) 24 w.heap.size rfl
  have cr := check_fix M (.slice a ys.length c) ys true ⟨fun _ => h, fun _ => rfl⟩ W1 (hE.below hb1) (by omega)
  simp only [if_true] at cr
  have CR := Lib.hid cr
  have HO := Lib.hid h
  have HE := Lib.hid hE
  have hwl := u8_len hl
  obtain ⟨⟨x0, x1⟩, xf⟩ := OX.out
  clear h hb1 hE cr
  refine callsIn_wide.1 (callsIn_of_wp_marks (n := 5) Try.func9 rfl trivial ?_ rfl)
  simp only [Try.ntmps9, List.size_toArray, List.length_cons, List.length_nil, Nat.reduceAdd, Nat.reduceSub, Array.replicate_succ, Array.replicate_zero, List.push_toArray, List.append_toArray, List.nil_append, List.cons_append]
  have hm : Try.prog.follows .mixedOrders = true := by kernel_rfl
  gi_wp2_with (refine wideC' ?_)
  rw [← hW1]
  clear hW1
  refine CR.out.mono ?_
  rintro e w2 ⟨rfl, hb⟩
  have HB2 := Lib.hid (HB.out.trans (hb.mono HB.out.size))
  have OX2 := Lib.hid (OX.out.below hb)
  have HS2 : Hid (w.heap.size + 1 ≤ w2.heap.size) := by show _ ≤ _; have := hb.size; omega
  clear hb x0 x1 xf CR OX
  obtain ⟨⟨x0, x1⟩, xf⟩ := OX2.out
  gi_wp2_with (refine wideC' ?_)
  refine (pput4 M w2 HO.out.2).mono ?_
  rintro e w3 ⟨r, rfl, hr, hb⟩
  obtain ⟨a3, c3, rfl⟩ := hr.form
  have HB3 := Lib.hid (HB2.out.trans (hb.mono HB2.out.size))
  have OX3 := Lib.hid (OX2.out.below hb)
  have HR3 : Hid (OwB w3 (w.heap.size + 1) (.slice a3 (lo M 4).length c3) (lo M 4)) := hr.mono (by have := HS2.out; omega)
  have HS3 : Hid (w.heap.size + 1 ≤ w3.heap.size) := Nat.le_trans HS2.out hb.size
  clear hb hr x0 x1 xf HB2 OX2
  obtain ⟨l4, hl4⟩ : ∃ l4, lo M 4 = l4 := ⟨_, rfl⟩
  rw [hl4] at HR3
  simp only [hl4]
  have hl4n : l4.length = 4 := by rw [← hl4, lo_len]
  obtain ⟨W4, hW4⟩ : ∃ W4, W4 = w3.alloc (.cells #[.slice a3 l4.length c3] 26) := ⟨_, rfl⟩
  obtain ⟨bx, hbx⟩ : ∃ bx, w3.heap.size = bx := ⟨_, rfl⟩
  have hb34 : Below w3.heap.size w3 W4 := by rw [hW4]; exact (Below.refl _ w3).alloc (Nat.le_refl _) _
  have hs4 : W4.heap.size = bx + 1 := by rw [hW4]; simp [hbx]
  have b4 : Boxed W4 bx 26 (.slice a3 l4.length c3) := by rw [hW4, ← hbx]; exact Boxed.new w3 26 _
  have o4 : OwB W4 (w.heap.size + 1) (.slice a3 l4.length c3) l4 := HR3.out.below hb34
  have OX4 := Lib.hid (OX3.out.below hb34)
  have HB4 := Lib.hid (HB3.out.trans (hb34.mono HB3.out.size))
  have hk4 : ∀ k, (Value.slice a3 l4.length c3).ownBlock = some k → k < bx ∨ bx + 1 ≤ k := fun k hk => by have := (HR3.out.lt k hk).2; omega
  have hsbx : w.heap.size + 1 ≤ bx := by rw [← hbx]; exact HS3.out
  obtain ⟨g1, c1, w5, hr5, ho5, hg5, hgg5⟩ := brun1 W4 (w.heap.size + 1) (.slice a3 l4.length c3) l4 o4 (ys.length : Int) (by omega) (by omega)
  have hg5' := grown_alloc hg5
  have ln5 : (l4 ++ [(ys.length : Int)]).length = 5 := by simp [hl4n]
  obtain ⟨k1, k2, k3, _, _, k6, k7⟩ := bstep (E := bx + 1) (c := bx + 1) (n₀ := w.heap.size + 1) (B := bx) (by omega) (by omega) (by omega) b4 o4 (fun k hk => hk4 k hk |>.imp (by omega) id) (by omega) ho5 hg5' (fun g h => by simp only [Value.ownBlock, Option.some.injEq] at h; subst h; exact hgg5)
  have hv5 : ∀ k, (Value.slice (some ⟨g1, 0, none⟩) (l4 ++ [(ys.length : Int)]).length c1).ownBlock = some k → k < w5.heap.size := fun k hk => (ho5.lt k hk).2
  have hbel5 : Below (w.heap.size + 1) W4 (w5.setCell ⟨bx, 0, none⟩ (.slice (some ⟨g1, 0, none⟩) (l4 ++ [(ys.length : Int)]).length c1)) := k6
  have OX5 := Lib.hid (OX4.out.low (Nat.lt_succ_self _) hbel5)
  have HB5 := Lib.hid (HB4.out.trans (hbel5.mono (Nat.le_succ _)))
  rw [hs4] at hr5
  have HR5 := Lib.hid hr5
  have hox5 := OX4.out.low (Nat.lt_succ_self _) ((Below.refl (w.heap.size + 1) W4).grown hg5' (by omega) (fun k e => (o4.lt k e).1))
  obtain ⟨⟨z0, z1⟩, zf⟩ := hox5
  have HK5 := Lib.hid (And.intro k2 k3)
  have q0 := k1.cell
  have q1 := k1.frozen
  have p0 := b4.cell
  have hv5' : ∀ k, (Value.slice (some ⟨g1, 0, none⟩) (l4 ++ [(ys.length : Int)]).length c1).ownBlock = some k → k < (w5.setCell ⟨bx, 0, none⟩ (.slice (some ⟨g1, 0, none⟩) (l4 ++ [(ys.length : Int)]).length c1)).heap.size := fun k hk => by simpa using hv5 k hk
  have HV5 := Lib.hid hv5'
  obtain ⟨y0, y1⟩ := OX4.out.1
  have HW5 : Hid (bx < (w5.setCell ⟨bx, 0, none⟩ (.slice (some ⟨g1, 0, none⟩) (l4 ++ [(ys.length : Int)]).length c1)).heap.size) := (Array.getElem?_eq_some_iff.1 k2).1
  clear k1 k2 k3 k6 k7 hr5 ho5 hg5 hg5' hgg5 hv5 hv5' hk4 hbel5 b4 o4 hb34
  obtain ⟨l5, hl5⟩ : ∃ l5, l4 ++ [(ys.length : Int)] = l5 := ⟨_, rfl⟩
  rw [hl5] at HR5 HK5 OX5 HB5 HV5 HW5 ln5
  have HL5 : Hid (l5 = preB M (ys.length : Int) []) := by show _ = _; rw [← hl5, ← hl4]; simp [preB, seconds]
  have hnx : w.heap.size ≠ bx := by omega
  have HLN4 := Lib.hid hl4n
  have HLN5 := Lib.hid ln5
  have HHS4 := Lib.hid hs4
  clear hl4 hl5 hl4n ln5 hs4
  subst hW4
  gi_wp2_with (gi_at_builtin; refine app_in rfl (.tmp 22) (.tmp 27) 26 rfl _ _ _ _ rfl rfl HR5.out ?_)
  refine wideC' ?_
  obtain ⟨V6, hV6⟩ : ∃ V6, w5.setCell ⟨bx, 0, none⟩ (.slice (some ⟨g1, 0, none⟩) l5.length c1) = V6 := ⟨_, rfl⟩
  rw [hV6] at HB5 OX5 HK5 HV5 HW5
  simp only [hV6]
  clear hV6 z0 z1 zf y0 y1 p0 q0 q1 HR5 HB4 OX4 HB3 OX3 HR3 HHS4
  have cT := inturn25 _ ys V6 (HE.out.below HB5.out).1
  obtain ⟨W2, hW2⟩ : ∃ W2, W2 = V6.alloc (.cells #[.slice a ys.length c] 22) := ⟨_, rfl⟩
  obtain ⟨Bl, hBl⟩ : ∃ Bl, V6.heap.size = Bl := ⟨_, rfl⟩
  rw [← hW2, hBl] at cT
  have hs2 : W2.heap.size = Bl + 1 := by rw [hW2]; simp [hBl]
  have hlb : bx < Bl := by rw [← hBl]; exact HW5.out
  have hwB : w.heap.size ≤ Bl := by omega
  have bL : Boxed W2 Bl 22 (.slice a ys.length c) := by rw [hW2, ← hBl]; exact Boxed.new V6 22 _
  have hb2 : Below w.heap.size w W2 := by rw [hW2]; exact HB5.out.alloc HB5.out.size _
  have h0 : I9 w M (ys.length : Int) bx Bl [] W2 := by
    refine ⟨⟨.slice (some ⟨g1, 0, none⟩) l5.length c1, by rw [hW2]; exact HK5.out.1.alloc _, ?_, fun k hk => .inl (by rw [← hBl]; exact HV5.out k hk)⟩, hb2⟩
    have h9 : OwB W2 (w.heap.size + 1) (.slice (some ⟨g1, 0, none⟩) l5.length c1) l5 := by rw [hW2]; exact HK5.out.2.below ((Below.refl _ _).alloc (Nat.le_refl _) _)
    have h8 := HL5.out
    rw [← h8]; exact h9
  have SQ := iter36 4 w W2 Bl a c ys HE.out hb2 (by omega) bL.cell
  refine cT.mono ?_
  rintro e V2 ⟨rfl, rfl⟩
  have HBl := Lib.hid hBl
  clear cT hW2 bL hBl
  gi_wp2_with fail
  refine wpIn_rangeFuncV rfl (by decide) (gf := 36) (lb := #[.pointer (some ⟨Bl, 0, none⟩)]) rfl trivial (enters_of Try.func36 (by kernel_rfl) rfl) SQ (Below.refl _ _) (fun _ => rfl)
    (Bl + 1) (Bl + 1 + 2 + 2) hs2 rfl (by omega) (by omega) (by omega)
    (I9 w M (ys.length : Int) bx Bl) (fun _ _ _ => False) (abK_9 w M (ys.length : Int) bx Bl hlb hwB) (fun _ _ _ _ _ hs _ _ => hs) h0 ?round ?done ?stop
  case round =>
    rintro l pre ⟨⟨x1, x2⟩, y1, y2⟩ W hI hsz hpre
    obtain ⟨hp1, hp2, _⟩ := uptoE_at hpre
    have hy : (y1, y2) = ys.getD pre.length (0, 0) := by have := congrArg Prod.snd hp2; exact this
    have hE1 := HO.out.1 pre.length hp1
    have hE2 : (0 ≤ y1 ∧ y1 < 64) ∧ EpOk y2 := by unfold EcAt at hE1; rw [← hy] at hE1; exact ⟨hE1.1, hE1.2.2⟩
    have HQ := Lib.hid (And.intro hI (And.intro hsz (And.intro hp1 hE2)))
    clear SQ hI hpre h0 hp1 hp2 hy hE1 hE2 hb2
    have hw1 : IntKind.u8.wrap y1 = y1 := by have := HQ.out.2.2.2.1; rw [IntKind.wrap_u8]; omega
    simp [encE]
    gi_wp2_with fail
    refine ⟨Keep.alloc _ _ _ _, (Below.refl _ W).alloc (by omega) _, fun V hg => ?_⟩
    obtain ⟨⟨e0, e1⟩, hs⟩ := one_new y1 y2 hg (by omega)
    obtain ⟨⟨v, hv, ho, hk⟩, hbw⟩ := HQ.out.1
    have hne : ∀ k, v.ownBlock = some k → k ≠ Bl + 1 + 1 := fun k h => by have := hk k h; omega
    have hvV : Boxed V bx 26 v := (hv.alloc _).kept hg (by simp <;> omega)
    have hoV : OwB V (w.heap.size + 1) v (preB M (ys.length : Int) pre) := World.ownsRow.kept (ho.below ((Below.refl _ _).alloc (Nat.le_refl _) (.cells #[.int .i64 y1, .int .i64 y2] 52))) hg (by
      cases hq : v.ownBlock with
      | none => exact .inl rfl
      | some q => exact .inr (fun e => hne q hq (by simpa using e)))
    have hbV : Below w.heap.size w V := (hbw.alloc (by omega) _).grown hg (by simp; omega) (fun k e => by cases e; omega)
    have hvW : ∀ k, v.ownBlock = some k → k < W.heap.size := fun k h => (ho.lt k h).2
    obtain ⟨a3, c3, rfl⟩ := hoV.form
    have HPS := Lib.hid (preB_snoc M (ys.length : Int) pre ((x1, x2), y1, y2))
    have hpl := preB_len M (ys.length : Int) pre
    obtain ⟨lp, hlp⟩ : ∃ lp, preB M (ys.length : Int) pre = lp := ⟨_, rfl⟩
    rw [hlp] at hoV hpl hvV hvW hk HPS
    have HV := Lib.hid (And.intro hvV (And.intro hoV (And.intro hbV (And.intro hk (And.intro hvW hpl)))))
    have HGV : Hid (W.heap.size < V.heap.size ∧ Bl + 1 + 2 + 2 ≤ W.heap.size) := ⟨by omega, by omega⟩
    clear hv ho hbw hne hvV hoV hbV hk hvW hpl hlp hg
    generalize W.heap.size = g at *
    gi_wp2_with fail
    refine wideR' ?_
    refine (pput4 y2 V HQ.out.2.2.2.2).mono ?_
    rintro e V1 ⟨r6, rfl, hr, hb⟩
    obtain ⟨a6, c6, rfl⟩ := hr.form
    have hq4 := lo_len y2 4
    obtain ⟨q4, hq4e⟩ : ∃ q4, lo y2 4 = q4 := ⟨_, rfl⟩
    rw [hq4e] at hr hq4 HPS
    simp only [hq4e]
    clear hq4e
    obtain ⟨v1, v2, v3, v4, v5, v6⟩ := HV.out
    have hVs := hb.size
    have hgv := HGV.out.1
    have u1 : Boxed V1 bx 26 (.slice a3 lp.length c3) := (hb.block bx (by omega)).trans v1
    have u2 : OwB V1 (w.heap.size + 1) (.slice a3 lp.length c3) lp := v2.below hb
    have u3 := v3.trans (hb.mono v3.size)
    have e0' := (hb.cell (p := ⟨g, 0, none⟩) HGV.out.1).trans e0
    have hr64 : lp.length ≤ 2000 := by have := HQ.out.2.2.1; omega
    have hsV1 : w.heap.size + 1 ≤ V1.heap.size := by omega
    obtain ⟨g2, c2, w6, hr6, ho6, hg6, hgg6⟩ := brun1 V1 (w.heap.size + 1) (.slice a3 lp.length c3) lp u2 y1 (by omega) hsV1
    have hw5 : Bl + 5 ≤ V1.heap.size := by omega
    obtain ⟨k1, k2, k3, k4, k5, k6, k7⟩ := bstep (E := Bl + 5) (c := Bl) (n₀ := w.heap.size + 1) (B := bx) hsbx hlb hsV1 u1 u2 v4 hw5 ho6 (grown_alloc hg6) (fun g h => by simp only [Value.ownBlock, Option.some.injEq] at h; subst h; exact hgg6)
    have hk7s : (w6.setCell ⟨bx, 0, none⟩ (.slice (some ⟨g2, 0, none⟩) (lp ++ [y1]).length c2)).heap.size ≥ V1.heap.size := k6.size
    have hr7 := hr.same (w' := w6.setCell ⟨bx, 0, none⟩ (.slice (some ⟨g2, 0, none⟩) (lp ++ [y1]).length c2)) (fun b hbk => by
      have h1 := hr.lt b hbk
      exact k7 b h1.2 (by omega) (fun e => by have := v5 b e; omega))
    have hlp1 : (lp ++ [y1]).length = lp.length + 1 := by simp
    obtain ⟨l1, hl1⟩ : ∃ l1, lp ++ [y1] = l1 := ⟨_, rfl⟩
    rw [hl1] at hr6 ho6 k2 k3 k4 k5 k6 k7 hk7s hr7 hlp1 HPS
    obtain ⟨a8, c8, w8, hr8, ho8, hg8, hgg8⟩ := brun (w6.setCell ⟨bx, 0, none⟩ (.slice (some ⟨g2, 0, none⟩) l1.length c2)) (w.heap.size + 1) (.slice (some ⟨g2, 0, none⟩) l1.length c2) l1 k3 V.heap.size (.slice a6 q4.length c6) q4 hr7 (by omega) (by omega)
    obtain ⟨l2, hl2⟩ : ∃ l2, l1 ++ q4 = l2 := ⟨_, rfl⟩
    rw [hl2] at hr8 ho8 hgg8 HPS
    obtain ⟨m1, m2, m3, m4, m5, m6, _⟩ := bstep (E := Bl + 5) (c := Bl) (n₀ := w.heap.size + 1) (B := bx) hsbx hlb (by omega) k2 k3 k4 (by omega) ho8 hg8 hgg8
    have t0 := u1.cell
    have t1 := k1.cell
    have t2 := k1.frozen
    have t3 := m1.cell
    have t4 := m1.frozen
    have HR6 := Lib.hid hr6
    have HR8 := Lib.hid hr8
    have hkeep := ((Keep.news hb).trans k5).trans m5
    have hbel := (hb.mono (show w.heap.size ≤ V.heap.size by omega)).trans ((k6.mono (Nat.le_succ _)).trans (m6.mono (Nat.le_succ _)))
    have HZ := Lib.hid (And.intro hkeep (And.intro hbel (And.intro m2 (And.intro m3 m4))))
    have hbz := Lib.hid (v3.trans hbel)
    clear hr hb hr6 ho6 hg6 hgg6 k1 k2 k3 k4 k5 k6 k7 hk7s hr7 hr8 ho8 hg8 hgg8 m1 m2 m3 m4 m5 m6 hl1 hl2 v1 v2 v3 v4 v5 v6 u1 u2 u3 e0 hkeep hbel hlp1 hq4 hVs hgv
    gi_wp2_with (first | (gi_at_builtin; refine app_in rfl (.tmp 40) (.tmp 44) 26 rfl _ _ _ _ rfl rfl HR6.out ?_) | (gi_at_builtin; refine app_in rfl (.tmp 46) (.tmp 47) 26 rfl _ _ _ _ rfl rfl HR8.out ?_))
    refine ⟨HZ.out.1, HZ.out.2.1, ⟨_, HZ.out.2.2.1, ?_, HZ.out.2.2.2.2⟩, hbz.out⟩
    rw [HPS.out]
    exact HZ.out.2.2.2.1
  case done =>
    rintro W ⟨⟨v, hv, ho, hk⟩, hbel⟩ hK
    obtain ⟨a3, c3, rfl⟩ := ho.form
    have hlen : preB M (ys.length : Int) (uptoE ys ys.length) = beB M ys := by unfold preB beB; rw [seconds_upto]
    rw [hlen] at ho hv hk
    obtain ⟨lb, hlb2⟩ : ∃ lb, beB M ys = lb := ⟨_, rfl⟩
    rw [hlb2] at ho hv hk
    have HLB := Lib.hid hlb2
    clear hlen hlb2
    have r0 := hv.cell
    have h3 : OwB (W.putObj (Bl + 1) (.deferred none)) (w.heap.size + 1) (.slice a3 lb.length c3) lb := ho.same (fun b hb => World.putObj_heap_other (by have := hk b hb; omega))
    have h4 : Below w.heap.size w (W.putObj (Bl + 1) (.deferred none)) := hbel.grown (grownBy_putObj' _ _ _) hbel.size (fun k e => by cases e; omega)
    gi_wp2_with fail
    refine postM_cell hK (v := .tuple #[.slice a3 lb.length c3, .int .i64 0]) (by simp [results, Try.results9, go_sem]) ⟨⟨_, rfl, by rw [HLB.out]; exact h3.mono (Nat.le_succ _)⟩, h4⟩
  case stop =>
    rintro ex pre W hpre h
    exact h.elim
#print axioms bytes9_ok
end Go.Proofs.Ytaflgabjpcfgpaa
