/- A sensor of one's own; two of them, apart; the document's examples (awake). No conditions. -/
import Derived.Test.YtcddicaebecneaaSn11
import Derived.Test.YtcddicaebecneaaSn12
namespace Go.Proofs.Ytcddicaebecneaa
set_option maxRecDepth 100000
open Go.RowKit

/-- A sensor that was made since w0. -/
structure One (PS : World → (Nat → Prop) → Nat → Sn → Prop) (w0 w : World) (F : Nat → Prop) (b : Nat) (s : Sn) : Prop where
  ps : PS w F b s
  new : ∀ k, F k → w0.heap.size ≤ k
  bel : Below w0.heap.size w0 w
/-- Two sensors that were made since w0, apart from each other. -/
structure Two (PS : World → (Nat → Prop) → Nat → Sn → Prop) (w0 w : World) (F : Nat → Prop) (b : Nat) (s : Sn) (G : Nat → Prop) (c : Nat) (t : Sn) : Prop where
  l : PS w F b s
  r : PS w G c t
  apart : ∀ k, F k → ¬ G k
  ln : ∀ k, F k → w0.heap.size ≤ k
  rn : ∀ k, G k → w0.heap.size ≤ k
  bel : Below w0.heap.size w0 w
section
variable {PS : World → (Nat → Prop) → Nat → Sn → Prop} {w0 w w' : World} {F F' G G' : Nat → Prop} {b c : Nat} {s s' t t' : Sn}
theorem One.next (h : One PS w0 w F b s) (hc : Chg F w w') (hp : PS w' F' b s') (hF : ∀ k, F' k → F k ∨ w.heap.size ≤ k) : One PS w0 w' F' b s' :=
  ⟨hp, fun k hk => (hF k hk).elim (h.new k) (fun g => Nat.le_trans h.bel.size g), h.bel.trans (hc.below h.bel.size h.new)⟩
theorem Two.swap (h : Two PS w0 w F b s G c t) : Two PS w0 w G c t F b s := ⟨h.r, h.l, fun k hg hf => h.apart k hf hg, h.rn, h.ln, h.bel⟩
theorem Two.next (sc : Sc PS) (h : Two PS w0 w F b s G c t) (hc : Chg F w w') (hp : PS w' F' b s') (hF : ∀ k, F' k → F k ∨ w.heap.size ≤ k) : Two PS w0 w' F' b s' G c t :=
  ⟨hp, sc.keep h.r hc (fun k hg hf => h.apart k hf hg), fun k hk hg => (hF k hk).elim (fun hf => h.apart k hf hg) (fun hs => by have := sc.lt h.r k hg; omega), fun k hk => (hF k hk).elim (h.ln k) (fun g => Nat.le_trans h.bel.size g), h.rn, h.bel.trans (hc.below h.bel.size h.ln)⟩
theorem Two.below (sc : Sc PS) (h : Two PS w0 w F b s G c t) (hb : Below w.heap.size w w') : Two PS w0 w' F b s G c t :=
  ⟨sc.keep h.l (G := fun _ => False) (chg0 hb) (fun _ _ g => g), sc.keep h.r (G := fun _ => False) (chg0 hb) (fun _ _ g => g), h.apart, h.ln, h.rn, h.bel.trans (hb.mono h.bel.size)⟩
theorem evs_off {v : Value} {l : List Ev} (h : Evs w v l) (hc : Chg F w w') (hv : ∀ g, v.ownBlock = some g → ¬ F g) : Evs w' v l :=
  h.chg hc (fun a n c e => hv a.block (by rw [e]; rfl))
end
theorem ev_new (w : World) (y : Ev) : Evs (w.alloc (.cells #[.int .i64 y.1, .int .i64 y.2.1, .int .i64 y.2.2] 49)) (.slice (some ⟨w.heap.size, 0, none⟩) 1 1) [y] := by
  refine .inr ⟨w.heap.size, 0, 1, rfl, Nat.le_refl 1, by simp, fun i hi j hj => ?_⟩
  have hi' : i < 1 := hi
  obtain rfl : i = 0 := by omega
  have hj' : j < 3 := hj
  have h3 : j = 0 ∨ j = 1 ∨ j = 2 := by omega
  rcases h3 with rfl | rfl | rfl <;> simp [RV3, evc]
theorem el_new (w : World) (y : Int × Int) : El (w.alloc (.cells #[.int .i64 y.1, .int .i64 y.2] 51)) (.slice (some ⟨w.heap.size, 0, none⟩) 1 1) [y] := by
  refine ⟨.inr ⟨w.heap.size, 0, 1, rfl, Nat.le_refl 1, by simp, fun i hi j hj => ?_⟩, fun b off len cap e i hi => ?_⟩
  · have hi' : i < 1 := hi
    obtain rfl : i = 0 := by omega
    exact (ec13 w y.1 y.2) j hj
  · cases e
    have hi' : i < 1 := hi
    obtain rfl : i = 0 := by omega
    exact pts_new w y.1 y.2 _ rfl
theorem aw_1 : hearR (sn0 1 5 10) 0 2 7 [] = ([], 0, ⟨1, 5, 10, 0, L1 2 (true, 7, 0, false)⟩) := by
  have := hear_first (s := sn0 1 5 10) rfl (okH_nil (fr := 2) (M := 7) rfl (by decide) (by decide) (by decide) (by decide))
  rw [sees_nil] at this
  exact this
theorem aw_2 : hearR ⟨1, 5, 10, 0, L1 2 (true, 7, 0, false)⟩ 1 2 7 [(1, 5)] = ([(1, 2, 7)], 0, ⟨1, 5, 10, 1, L1 2 (true, 7, 1, true)⟩) := by
  have hok : okH ⟨1, 5, 10, 0, L1 2 (true, 7, 0, false)⟩ 1 2 7 [(1, 5)] :=
    ⟨rfl, by decide, by decide, by decide, beok_of (List.pairwise_singleton _ _) (fun y hy => by rw [List.mem_singleton.1 hy]; exact ⟨by decide, by decide, by decide⟩) (by decide)⟩
  have hz : hdAt ⟨1, 5, 10, 0, L1 2 (true, 7, 0, false)⟩ 2 = (true, 7, 0, false) := by
    show (L1 2 (true, 7, 0, false)).getD 2 zHd = _
    rw [l1_at _ _ (by decide), if_pos rfl]
  have hs : seesB ⟨1, 5, 10, 0, L1 2 (true, 7, 0, false)⟩ [(1, 5)] = true := sees_one rfl rfl
  unfold hearR
  rw [if_pos hok, hz, hs, if_neg (show ¬ old1 (true, 7, 0, false) 7 = true by decide)]
  show ((_, _, Sn.mk 1 5 10 1 ((L1 2 (true, 7, 0, false)).set 2 (true, 7, 1, true))) : List Ev × Int × Sn) = _
  rw [l1_set]
  rfl
theorem aw_3 : tickE ⟨1, 5, 10, 1, L1 2 (true, 7, 1, true)⟩ 11 = 0 ∧ tickO ⟨1, 5, 10, 1, L1 2 (true, 7, 1, true)⟩ 11 = [] ∧ tickS ⟨1, 5, 10, 1, L1 2 (true, 7, 1, true)⟩ 11 = ⟨1, 5, 10, 11, L1 2 (true, 7, 1, true)⟩ := by
  refine ⟨rfl, ?_, ?_⟩
  · show tkO 11 10 (L1 2 (true, 7, 1, true)) 64 = []
    rw [tkO_one 11 10 2 (by decide), if_neg (by decide)]
  · show Sn.mk 1 5 10 11 (tkL 11 10 (L1 2 (true, 7, 1, true)) 64) = _
    rw [tkL_one 11 10 2 (by decide)]
    rfl
theorem aw_4 : tickE ⟨1, 5, 10, 11, L1 2 (true, 7, 1, true)⟩ 12 = 0 ∧ tickO ⟨1, 5, 10, 11, L1 2 (true, 7, 1, true)⟩ 12 = [(2, 2, 7)] := by
  refine ⟨rfl, ?_⟩
  show tkO 12 10 (L1 2 (true, 7, 1, true)) 64 = _
  rw [tkO_one 12 10 2 (by decide), if_pos (by decide)]
  rfl
set_option maxHeartbeats 8000000 in
theorem awake13 {PS : World → (Nat → Prop) → Nat → Sn → Prop} (sc : Sc PS) (w : World) :
    Calls Try.prog 12 #[] w fun e w' => e = .returned (.bool true) ∧ Below w.heap.size w w' := by
  have C1 := Lib.hid (sc.new 1 5 10 w)
  go_enter Try.func12, Try.ntmps12
  go_wp2_with fail
  refine C1.out.mono ?_
  rintro e W1 ⟨hb1, ⟨hn, -⟩ | ⟨-, b, F1, rfl, hp1, hF1⟩⟩
  · exact absurd (show newOk 1 5 10 from ⟨by decide, by decide, by decide, by decide, by decide⟩) hn
  have X1 : Hid (One PS w W1 F1 b (sn0 1 5 10)) := ⟨hp1, hF1, hb1⟩
  have C2 := Lib.hid (sc.hear 0 2 7 (.slice none 0 0) [] hp1 ⟨Es_nil _, fun b off len cap e => by cases e⟩ (by decide))
  clear hb1 hp1 hF1 C1
  rw [aw_1] at C2
  go_wp2_with fail
  refine C2.out.mono ?_
  rintro e W2 ⟨va, rfl, hea, hc2, F2, hp2, hF2, -⟩
  obtain ⟨aa, ca, rfl⟩ := hea.form
  have X2 : Hid (One PS w W2 F2 b ⟨1, 5, 10, 0, L1 2 (true, 7, 0, false)⟩) := X1.out.next hc2 hp2 hF2
  clear hc2 hp2 hF2 hea C2 X1
  obtain ⟨V2, hV2⟩ : ∃ V2, W2.alloc (.cells #[.int .i64 1, .int .i64 5] 51) = V2 := ⟨_, rfl⟩
  have hbv : Below W2.heap.size W2 V2 := hV2 ▸ (Below.refl _ W2).alloc (Nat.le_refl _) _
  have hel : El V2 (.slice (some ⟨W2.heap.size, 0, none⟩) 1 1) [(1, 5)] := hV2 ▸ el_new W2 (1, 5)
  have X2v : Hid (One PS w V2 F2 b ⟨1, 5, 10, 0, L1 2 (true, 7, 0, false)⟩) := X2.out.next (F' := F2) (chg0 hbv) (sc.keep X2.out.ps (G := fun _ => False) (chg0 hbv) (fun _ _ g => g)) (fun k hk => .inl hk)
  have C3 := Lib.hid (sc.hear 1 2 7 (.slice (some ⟨W2.heap.size, 0, none⟩) 1 1) [(1, 5)] X2v.out.ps hel (by decide))
  rw [aw_2] at C3
  clear hbv hel X2
  go_wp2_with fail
  refine C3.out.mono ?_
  rintro e W3 ⟨vb, rfl, heb, hc3, F3, hp3, hF3, hob⟩
  obtain ⟨ab, cb, rfl⟩ := heb.form
  have X3 : Hid (One PS w W3 F3 b ⟨1, 5, 10, 1, L1 2 (true, 7, 1, true)⟩) := X2v.out.next hc3 hp3 hF3
  have HEB := Lib.hid heb
  have HOB : Hid (∀ g, (Value.slice ab [((1 : Int), (2 : Int), (7 : Int))].length cb).ownBlock = some g → g < W3.heap.size ∧ ¬ F3 g) := fun g hg => by
    refine ⟨?_, (hob g hg).2⟩
    obtain ⟨b', off, h1, h2, -⟩ := Evs.at (i := 0) heb (by decide)
    rw [h1] at hg
    cases hg
    exact h2
  clear hc3 hp3 hF3 heb hob C3 hV2
  have C4 := Lib.hid (sc.tick 11 X3.out.ps)
  rw [aw_3.1, aw_3.2.1, aw_3.2.2] at C4
  go_wp2_with fail
  refine C4.out.mono ?_
  rintro e W4 ⟨vc, rfl, hec, hc4, F4, hp4, hF4, -⟩
  obtain ⟨ac, cc, rfl⟩ := hec.form
  have X4 : Hid (One PS w W4 F4 b ⟨1, 5, 10, 11, L1 2 (true, 7, 1, true)⟩) := X3.out.next hc4 hp4 hF4
  have HEB4 := Lib.hid (evs_off HEB.out hc4 (fun g hg => (HOB.out g hg).2))
  have HOB4 : Hid (∀ g, (Value.slice ab [((1 : Int), (2 : Int), (7 : Int))].length cb).ownBlock = some g → ¬ F4 g) := fun g hg h4 => by
    obtain ⟨q1, q2⟩ := HOB.out g hg
    exact (hF4 g h4).elim q2 (fun q => by omega)
  clear hc4 hp4 hF4 hec C4 HEB HOB X3
  have C5 := Lib.hid (sc.tick 12 X4.out.ps)
  rw [aw_4.1, aw_4.2] at C5
  go_wp2_with fail
  refine C5.out.mono ?_
  rintro e W5 ⟨vd, rfl, hed, hc5, F5, hp5, hF5, -⟩
  obtain ⟨ad, cd, rfl⟩ := hed.form
  have HB5 := Lib.hid (X4.out.next hc5 hp5 hF5).bel
  have HEB5 := Lib.hid (evs_off HEB4.out hc5 HOB4.out)
  have HED := Lib.hid hed
  clear hc5 hp5 hF5 hed C5 X4 HEB4 HOB4
  obtain ⟨W6, hW6⟩ : ∃ W6, W5.alloc (.cells #[.int .i64 1, .int .i64 2, .int .i64 7] 49) = W6 := ⟨_, rfl⟩
  have hb6 : Below W5.heap.size W5 W6 := hW6 ▸ (Below.refl _ W5).alloc (Nat.le_refl _) _
  have hn6 : Evs W6 (.slice (some ⟨W5.heap.size, 0, none⟩) 1 1) [(1, 2, 7)] := hW6 ▸ ev_new W5 (1, 2, 7)
  have C6 := Lib.hid (revs_any _ _ _ _ W6 (HEB5.out.below hb6) hn6 (by decide))
  have HED6 := Lib.hid (HED.out.below hb6)
  have HB6 := Lib.hid (HB5.out.trans (hb6.mono HB5.out.size))
  rw [show decide ([((1 : Int), (2 : Int), (7 : Int))] = [((1 : Int), (2 : Int), (7 : Int))]) = true from decide_eq_true rfl] at C6
  clear hb6 hn6 HEB5 HED HB5
  go_wp2_with fail
  refine C6.out.mono ?_
  rintro e W7 ⟨rfl, hb7⟩
  have HED7 := Lib.hid (HED6.out.below hb7)
  have HB7 := Lib.hid (HB6.out.trans (hb7.mono HB6.out.size))
  clear hb7 hW6 C6 HED6 HB6
  obtain ⟨W8, hW8⟩ : ∃ W8, W7.alloc (.cells #[.int .i64 2, .int .i64 2, .int .i64 7] 49) = W8 := ⟨_, rfl⟩
  have hb8 : Below W7.heap.size W7 W8 := hW8 ▸ (Below.refl _ W7).alloc (Nat.le_refl _) _
  have hn8 : Evs W8 (.slice (some ⟨W7.heap.size, 0, none⟩) 1 1) [(2, 2, 7)] := hW8 ▸ ev_new W7 (2, 2, 7)
  have C8 := Lib.hid (revs_any _ _ _ _ W8 (HED7.out.below hb8) hn8 (by decide))
  have HB8 := Lib.hid (HB7.out.trans (hb8.mono HB7.out.size))
  rw [show decide ([((2 : Int), (2 : Int), (7 : Int))] = [((2 : Int), (2 : Int), (7 : Int))]) = true from decide_eq_true rfl] at C8
  clear hb8 hn8 HED7 HB7
  go_wp2_with fail
  refine C8.out.mono ?_
  rintro e W9 ⟨rfl, hb9⟩
  have HB9 := Lib.hid (HB8.out.trans (hb9.mono HB8.out.size))
  clear hb9 C8 HB8 hW8
  go_wp2_with fail
  go_ret
  exact ⟨rfl, HB9.out⟩
end Go.Proofs.Ytcddicaebecneaa
