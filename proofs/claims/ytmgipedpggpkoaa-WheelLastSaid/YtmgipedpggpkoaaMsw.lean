/- A wheel over a map that is made once: Set, Stop. -/
import Derived.Test.YtmgipedpggpkoaaMps
import Derived.Maps.RangeWalk
namespace Go.Proofs.Ytmgipedpggpkoaa
set_option maxRecDepth 100000
open Go.RowKit Go.Maps

theorem underI : Try.prog.underlying 3 = some (.int .i64) := by kernel_rfl
theorem underMP : Try.prog.underlying 61 = some (.map 3 3) := by kernel_rfl
theorem lawI : Keyed Try.prog 3 := int_keyed underI
theorem zeroI (w : World) : (zeroValue 3).run Try.prog w = .ok (.int .i64 0) w := by kernel_rfl
theorem wfI {x : Int} (h : I64 x) : (Lit.int .i64 x).wf = true := WalkArith.wf_i64 (by unfold I64 at h; omega)
theorem MapI.tight {w : World} {bm n : Nat} {D : DataW Unit} (h : MapI w bm n D) : MapI w bm (Maps.size D) D := by
  obtain ⟨es, clock, h1, h2, _, h4⟩ := h
  refine ⟨es, clock, h1, h2, ?_, h4⟩
  rw [h4, Maps.size_eq, length_sorted]
  simp
/-- The program's wheel: at block b, in the blocks of F, the timers l. -/
def PW (w : World) (F : Nat → Prop) (b : Nat) (l : List Tm) : Prop := TOk l ∧ ∃ o, WQ w b o ∧ (∀ k, F k ↔ k = b ∨ o = some k) ∧ (o = none → l = []) ∧ ∀ bm, o = some bm → bm ≠ b ∧ bm < w.heap.size ∧ ∃ D, MapI w bm (Maps.size D) D ∧ Mtc D l
theorem times_any {w : World} {F : Nat → Prop} {b : Nat} {l : List Tm} (h : PW w F b l) : Calls Try.prog 21 #[.pointer (some ⟨b, 0, none⟩)] w fun e w' => ∃ bm D, e = .returned (.map (some bm)) ∧ WQ w' b (some bm) ∧ bm ≠ b ∧ MapI w' bm (Maps.size D) D ∧ Mtc D l ∧ Chg F w w' ∧ (F bm ∨ w.heap.size ≤ bm) := by
  obtain ⟨_, o, h1, h2, h3, h4⟩ := h
  cases o with
  | none =>
    refine (times_new b w h1).mono ?_
    rintro e w' ⟨bm, rfl, i1, i2, i3, i4⟩
    have := h1.lt
    obtain rfl := h3 rfl
    exact ⟨bm, .map [], rfl, i1, by omega, i2, mtc_nil, i4.mono (fun k _ hk => (h2 k).2 (.inl hk)), .inr i3⟩
  | some bm =>
    obtain ⟨j1, j2, D, j3, j4⟩ := h4 bm rfl
    refine (times_old b bm w h1).mono ?_
    rintro e w' ⟨rfl, hb⟩
    exact ⟨bm, D, rfl, h1.chg (F := fun _ => False) (chg0 hb) (fun h => h), j1, j3.chg (F := fun _ => False) (chg0 hb) (fun h => h), j4, chg0 hb, .inl ((h2 bm).2 (.inr rfl))⟩
theorem turned_chg {w w' : World} {bm : Nat} (h : w.mapTurned w' bm) : Chg (fun k => k = bm) w w' := (Chg.refl _ w).grown h.grown (fun k hk => .inl (by cases hk; rfl))
/-- Behind a call that has looked for the map, and has turned nothing but it. -/
theorem pw_mk {w' : World} {b bm : Nat} {D : DataW Unit} {l' : List Tm} (hok : TOk l') (hq : WQ w' b (some bm)) (hne : bm ≠ b) (hm : MapI w' bm (Maps.size D) D) (hM : Mtc D l') : PW w' (fun k => k = b ∨ k = bm) b l' :=
  ⟨hok, some bm, hq, fun k => ⟨fun h => h.imp (fun h => h) (fun h => by rw [h]), fun h => h.imp (fun h => h) (fun h => by cases h; rfl)⟩, (fun h => by cases h), fun bm' e => by cases e; exact ⟨hne, hm.lt, D, hm, hM⟩⟩
theorem PW.mk {w w' : World} {F : Nat → Prop} {b bm : Nat} {D : DataW Unit} {l' : List Tm} (hok : TOk l') (hq : WQ w' b (some bm)) (hne : bm ≠ b) (hm : MapI w' bm (Maps.size D) D) (hM : Mtc D l') (hF : F b) (hbm : F bm ∨ w.heap.size ≤ bm) : ∃ F', PW w' F' b l' ∧ ∀ k, F' k → F k ∨ w.heap.size ≤ k :=
  ⟨fun k => k = b ∨ k = bm, pw_mk hok hq hne hm hM, fun _ hk => hk.elim (fun e => .inl (e ▸ hF)) (fun e => e ▸ hbm)⟩
set_option maxHeartbeats 8000000 in
theorem pset_go {w : World} {F : Nat → Prop} {b : Nat} {l : List Tm} (key at_ : Int) (hkey : I64 key) (hbad : ¬ badT key at_) (hok : TOk (setL l key at_)) (h : PW w F b l) :
    Calls Try.prog 9 #[.pointer (some ⟨b, 0, none⟩), .int .i64 key, .int .i64 at_] w fun e w' => e = .returned (.int .i64 (setE l key at_)) ∧ Chg F w w' ∧ ∃ F', PW w' F' b (setL l key at_) ∧ ∀ k, F' k → F k ∨ w.heap.size ≤ k := by
  have hFb : F b := by
    obtain ⟨_, o, _, h2, _⟩ := h
    exact (h2 b).2 (.inl rfl)
  have HFB := Lib.hid hFb
  have HT := Lib.hid h.1
  have HK := Lib.hid hkey
  have HB := Lib.hid hbad
  have HOK := Lib.hid hok
  have C1 := Lib.hid (times_any h)
  have h1 : ¬ at_ < 0 := fun e => hbad (.inl e)
  have h2 : ¬ 1000000000000 < at_ := fun e => hbad (.inr (.inl e))
  have h3 : ¬ key < 0 := fun e => hbad (.inr (.inr e))
  have d1 : decide (at_ < 0) = false := decide_eq_false h1
  have d2 : decide (1000000000000 < at_) = false := decide_eq_false h2
  have d3 : decide (key < 0) = false := decide_eq_false h3
  have HWA : Hid ((Lit.int .i64 at_).wf = true) := wfI (by unfold I64; omega)
  have HKF : Hid (keyOf Try.prog 3 (.int .i64 key) = some (.int .i64 key)) := keyOf_int_mk underI (wfI hkey)
  clear h hFb hbad hok
  go_enter Try.func9, Try.ntmps9
  go_wp2_with fail
  refine C1.out.mono ?_
  rintro e w2 ⟨bm, D, rfl, hq, hne, hm, hM, hg, hbm⟩
  have HQ := Lib.hid hq
  have HNE := Lib.hid hne
  have HM := Lib.hid hm
  have HMT := Lib.hid hM
  have HG := Lib.hid hg
  have HBM := Lib.hid hbm
  have hl64 : l.length ≤ 1024 := HT.out.len
  clear hq hne hm hM hg hbm C1
  obtain ⟨q, hqs⟩ : ∃ q, issetL l key = q := ⟨_, rfl⟩
  have hhas : Maps.has D (.int .i64 key) = q := (HMT.out.has key).trans hqs
  have hsz : Maps.size D = l.length := HMT.out.size
  have HQS := Lib.hid hqs
  clear hqs
  have hlen : ∀ t, (Builtin.len_ #[61] t #[.map (some bm)]).run Try.prog w2 = .ok (.int .i64 l.length) w2 := fun t => by
    have := HM.out.len underMP t
    rw [hsz] at this
    exact this
  by_cases hfull : q = false ∧ 1024 ≤ l.length
  · obtain ⟨rfl, hfl⟩ := hfull
    have hfi : ((l.length : Int) = 1024) = True := eq_true (by omega)
    have hse : setE l key at_ = 8 := by unfold setE; rw [if_neg HB.out, if_pos ⟨HQS.out, hfl⟩]
    have hsl : setL l key at_ = l := by unfold setL; rw [if_neg HB.out, if_pos ⟨HQS.out, hfl⟩]
    have HS := Lib.hid (And.intro hse hsl)
    clear hse hsl
    go_wp2_with (first | (at_lookup; refine wpList_lookup_own_ok_int _ rfl _ _ 61 rfl 3 3 .i64 lawI underMP underI (zeroI _) bm _ D rfl HM.out _ _ rfl HKF.out ?_; intro c hat hwc; rw [hhas]; clear hat hwc))
    go_ret
    rw [HS.out.1, HS.out.2]
    exact ⟨rfl, HG.out, PW.mk HT.out HQ.out HNE.out HM.out HMT.out HFB.out HBM.out⟩
  · have hse : setE l key at_ = 0 := by unfold setE; rw [if_neg HB.out, if_neg (by rw [HQS.out]; exact hfull)]
    have hsl : setL l key at_ = insL (stopL l key) key at_ := by unfold setL; rw [if_neg HB.out, if_neg (by rw [HQS.out]; exact hfull)]
    have HS := Lib.hid (And.intro hse hsl)
    have HP := Lib.hid (HMT.out.put HT.out.nd key at_ (l' := setL l key at_) (by rw [hsl]; exact insL_perm _ _ _))
    clear hse hsl
    have hbelow : q = false → ¬ (l.length : Int) = 1024 := fun e h => hfull ⟨e, by omega⟩
    clear hfull
    cases q with
    | false =>
      have hb1 := hbelow rfl
      clear hbelow
      go_wp2_with (first | (at_lookup; refine wpList_lookup_own_ok_int _ rfl _ _ 61 rfl 3 3 .i64 lawI underMP underI (zeroI _) bm _ D rfl HM.out _ _ rfl HKF.out ?_; intro c hat hwc; rw [hhas]; clear hat hwc) | (at_mapUpdate; refine wpList_mapUpdate_in _ rfl _ _ _ 61 rfl 3 3 lawI underMP _ bm _ D rfl HM.out (by rw [hsz]; unfold maxLen; omega) _ _ _ rfl rfl HKF.out _ [] (plainElem_int underI HWA.out) ?_; intro w3 hown3 hturn3; have HM3 := Lib.hid hown3; have HG3 := Lib.hid (turned_chg hturn3); clear hown3 hturn3))
      go_ret
      rw [HS.out.1]
      have hch : Chg F w w3 := HG.out.trans HG3.out (fun k hk e => by
        rcases HBM.out with h | h
        · rw [e]; exact h
        · have : k < w.heap.size := hk
          omega)
      exact ⟨rfl, hch, PW.mk HOK.out (HQ.out.chg HG3.out (fun e => HNE.out e.symm)) HNE.out (MapI.tight HM3.out) HP.out HFB.out HBM.out⟩
    | true =>
      clear hbelow
      go_wp2_with (first | (at_lookup; refine wpList_lookup_own_ok_int _ rfl _ _ 61 rfl 3 3 .i64 lawI underMP underI (zeroI _) bm _ D rfl HM.out _ _ rfl HKF.out ?_; intro c hat hwc; rw [hhas]; clear hat hwc) | (at_mapUpdate; refine wpList_mapUpdate_in _ rfl _ _ _ 61 rfl 3 3 lawI underMP _ bm _ D rfl HM.out (by rw [hsz]; unfold maxLen; omega) _ _ _ rfl rfl HKF.out _ [] (plainElem_int underI HWA.out) ?_; intro w3 hown3 hturn3; have HM3 := Lib.hid hown3; have HG3 := Lib.hid (turned_chg hturn3); clear hown3 hturn3))
      go_ret
      rw [HS.out.1]
      have hch : Chg F w w3 := HG.out.trans HG3.out (fun k hk e => by
        rcases HBM.out with h | h
        · rw [e]; exact h
        · have : k < w.heap.size := hk
          omega)
      exact ⟨rfl, hch, PW.mk HOK.out (HQ.out.chg HG3.out (fun e => HNE.out e.symm)) HNE.out (MapI.tight HM3.out) HP.out HFB.out HBM.out⟩
end Go.Proofs.Ytmgipedpggpkoaa
