/- A wheel over a map that is made once: Stop; Set of what may not be. -/
import Derived.Test.YtmgipedpggpkoaaMsw
namespace Go.Proofs.Ytmgipedpggpkoaa
set_option maxRecDepth 100000
open Go.RowKit Go.Maps

theorem tok_stop {l : List Tm} (h : TOk l) (key : Int) : TOk (stopL l key) :=
  ⟨h.srt.sublist List.filter_sublist, (h.nd.sublist (List.Sublist.map _ List.filter_sublist)), fun y hy => h.rg y (List.mem_filter.1 hy).1, Nat.le_trans (stopL_le l key) h.len⟩
set_option maxHeartbeats 8000000 in
theorem pstop_any {w : World} {F : Nat → Prop} {b : Nat} {l : List Tm} (key : Int) (hkey : I64 key) (h : PW w F b l) :
    Calls Try.prog 11 #[.pointer (some ⟨b, 0, none⟩), .int .i64 key] w fun e w' => e = .returned (.int .i64 (stopE l key)) ∧ Chg F w w' ∧ ∃ F', PW w' F' b (stopL l key) ∧ ∀ k, F' k → F k ∨ w.heap.size ≤ k := by
  have hFb : F b := by
    obtain ⟨_, o, _, h2, _⟩ := h
    exact (h2 b).2 (.inl rfl)
  have HFB := Lib.hid hFb
  have HT := Lib.hid h.1
  have C1 := Lib.hid (times_any h)
  have HKF : Hid (keyOf Try.prog 3 (.int .i64 key) = some (.int .i64 key)) := keyOf_int_mk underI (wfI hkey)
  clear h hFb hkey
  go_enter Try.func11, Try.ntmps11
  go_wp2_with fail
  refine C1.out.mono ?_
  rintro e w2 ⟨bm, D, rfl, hq, hne, hm, hM, hg, hbm⟩
  have HQ := Lib.hid hq
  have HNE := Lib.hid hne
  have HM := Lib.hid hm
  have HMT := Lib.hid hM
  have HG := Lib.hid hg
  have HBM := Lib.hid hbm
  clear hq hne hm hM hg hbm C1
  obtain ⟨q, hqs⟩ : ∃ q, issetL l key = q := ⟨_, rfl⟩
  have hhas : Maps.has D (.int .i64 key) = q := (HMT.out.has key).trans hqs
  have HQS := Lib.hid hqs
  clear hqs
  cases q with
  | false =>
    have hse : stopE l key = 7 := by unfold stopE; rw [HQS.out]; rfl
    have hsl : stopL l key = l := by
      unfold stopL
      refine List.filter_eq_self.2 fun y hy => ?_
      have h1 := HQS.out
      unfold issetL at h1
      have := List.any_eq_false.1 h1 y hy
      simpa using this
    have HS := Lib.hid (And.intro hse hsl)
    clear hse hsl
    go_wp2_with (at_lookup; refine wpList_lookup_own_ok_int _ rfl _ _ 61 rfl 3 3 .i64 lawI underMP underI (zeroI _) bm _ D rfl HM.out _ _ rfl HKF.out ?_; intro c hat hwc; rw [hhas]; clear hat hwc)
    go_ret
    rw [HS.out.1, HS.out.2]
    exact ⟨rfl, HG.out, PW.mk HT.out HQ.out HNE.out HM.out HMT.out HFB.out HBM.out⟩
  | true =>
    have hse : stopE l key = 0 := by unfold stopE; rw [HQS.out]; rfl
    have HS := Lib.hid hse
    have HP := Lib.hid (HMT.out.del HT.out.nd key)
    clear hse
    go_wp2_with (first | (at_lookup; refine wpList_lookup_own_ok_int _ rfl _ _ 61 rfl 3 3 .i64 lawI underMP underI (zeroI _) bm _ D rfl HM.out _ _ rfl HKF.out ?_; intro c hat hwc; rw [hhas]; clear hat hwc) | (at_delete; refine wpList_delete_own _ rfl _ _ 61 3 rfl 3 lawI underMP _ bm _ D rfl HM.out _ _ rfl HKF.out ?_; intro w3 hown3 hturn3; have HM3 := Lib.hid hown3; have HG3 := Lib.hid (turned_chg hturn3); clear hown3 hturn3))
    go_ret
    rw [HS.out]
    have hch : Chg F w w3 := HG.out.trans HG3.out (fun k hk e => by
      rcases HBM.out with h | h
      · rw [e]; exact h
      · have : k < w.heap.size := hk
        omega)
    exact ⟨rfl, hch, PW.mk (tok_stop HT.out key) (HQ.out.chg HG3.out (fun e => HNE.out e.symm)) HNE.out (MapI.tight HM3.out) HP.out HFB.out HBM.out⟩
end Go.Proofs.Ytmgipedpggpkoaa
