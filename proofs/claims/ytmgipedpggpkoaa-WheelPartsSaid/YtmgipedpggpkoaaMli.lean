/- A wheel over a map that is made once: what is collected from the map, and sorted. -/
import Derived.Test.YtmgipedpggpkoaaMst
namespace Go.Proofs.Ytmgipedpggpkoaa
set_option maxRecDepth 100000
open Go.RowKit Go.Maps

/-- What a sort of timers answers. -/
def SortsTm : Prop := ∀ (w : World) (S : Nat) (a : Option Addr) (c : Nat) (xs : List Tm), OwM w S (.slice a xs.length c) xs → S ≤ w.heap.size → (xs.map (·.2)).Nodup → xs.length ≤ 1024 → Calls Try.prog 27 #[.slice a xs.length c, .func (.func 28) #[] #[]] w fun e w' => e = .returned (.tuple #[]) ∧ ∃ ys, ys.Perm xs ∧ ys.Pairwise ltT ∧ OwM w' S (.slice a xs.length c) ys ∧ Chg (fun k => (Value.slice a xs.length c).ownBlock = some k) w w'
theorem srt_eq {l l' : List Tm} (hp : l.Perm l') (h : l.Pairwise ltT) (h' : l'.Pairwise ltT) : l = l' :=
  hp.eq_of_pairwise (fun a b _ _ h1 h2 => by unfold ltT at h1 h2; exfalso; omega) h h'
/-- What has been collected, while some are left. -/
structure Got (l xs : List Tm) (left : Lit → Bool) : Prop where
  sub : ∀ y ∈ xs, y ∈ l
  nd : (xs.map (·.2)).Nodup
  left_ : ∀ k : Int, left (.int .i64 k) = (issetL l k && !issetL xs k)
theorem got_start {l : List Tm} {D : DataW Unit} (hM : Mtc D l) : Got l [] (Maps.has D) :=
  ⟨(fun _ hy => nomatch hy), List.nodup_nil, fun k => by rw [hM.has]; simp [issetL]⟩
theorem got_step {l xs : List Tm} {left : Lit → Bool} {D : DataW Unit} (h : Got l xs left) (hM : Mtc D l) {x c : Int} (hl : left (.int .i64 x) = true) (hat : ∀ zd, D.atKey (.int .i64 x) zd = .lit (.int .i64 c)) : Got l (xs ++ [(c, x)]) (fun z => left z && !z.sameKey (.int .i64 x)) := by
  rw [h.left_] at hl
  obtain ⟨h1, h2⟩ := Bool.and_eq_true_iff.1 hl
  have h2' : issetL xs x = false := by simpa using h2
  obtain ⟨y, hy, hk⟩ := List.any_eq_true.1 (show l.any (isKey x) = true from h1)
  have hk2 : y.2 = x := by simpa [isKey] using hk
  have hc : y.1 = c := by
    have h3 := hM.at_ y hy (.lit (.int .i64 0))
    rw [hk2, hat] at h3
    cases h3
    rfl
  have hy2 : (c, x) ∈ l := by rw [← hc, ← hk2]; exact hy
  have hn : ∀ z ∈ xs, z.2 ≠ x := fun z hz e => by
    have := List.any_eq_false.1 (show xs.any (isKey x) = false from h2') z hz
    exact this (by simpa [isKey] using e)
  refine ⟨fun z hz => ?_, ?_, fun k => ?_⟩
  · rcases List.mem_append.1 hz with hz | hz
    · exact h.sub z hz
    · obtain rfl := List.mem_singleton.1 hz
      exact hy2
  · rw [List.map_append]
    refine List.nodup_append.2 ⟨h.nd, by simp, fun a ha b hb e => ?_⟩
    obtain ⟨z, hz, rfl⟩ := List.mem_map.1 ha
    obtain rfl : b = x := by simpa using hb
    exact hn z hz e
  · rw [h.left_]
    have e1 : issetL (xs ++ [(c, x)]) k = (issetL xs k || (x == k)) := by
      unfold issetL
      rw [List.any_append]
      simp [isKey]
    rw [e1]
    by_cases hxk : x = k
    · subst hxk
      have e2 : (Lit.int .i64 x).sameKey (.int .i64 x) = true := by simp [Lit.sameKey]
      rw [e2]
      simp
    · have e2 : (Lit.int .i64 k).sameKey (.int .i64 x) = false := Maps.sameKey_ne (lit_ne (fun e => hxk e.symm))
      have e3 : (x == k) = false := by simpa using hxk
      rw [e2, e3]
      simp
theorem key_inj {l : List Tm} (nd : (l.map (·.2)).Nodup) {y z : Tm} (hy : y ∈ l) (hz : z ∈ l) (e : z.2 = y.2) : z = y := by
  induction l with
  | nil => cases hy
  | cons a r ih =>
    rw [List.map_cons, List.nodup_cons] at nd
    rcases List.mem_cons.1 hy with rfl | hy2
    · rcases List.mem_cons.1 hz with rfl | hz2
      · rfl
      · exact absurd (List.mem_map.2 ⟨z, hz2, e⟩) nd.1
    · rcases List.mem_cons.1 hz with rfl | hz2
      · exact absurd (List.mem_map.2 ⟨y, hy2, e.symm⟩) nd.1
      · exact ih nd.2 hy2 hz2
theorem got_end {l xs : List Tm} {left : Lit → Bool} (h : Got l xs left) (nd : (l.map (·.2)).Nodup) (hl : ∀ kl, left kl = false) : xs.Perm l := by
  have hx : xs.Nodup := List.Pairwise.of_map (fun y : Tm => y.2) (fun a b h e => h (by rw [e])) h.nd
  have hln : l.Nodup := List.Pairwise.of_map (fun y : Tm => y.2) (fun a b h e => h (by rw [e])) nd
  refine (List.perm_ext_iff_of_nodup hx hln).2 fun y => ⟨h.sub y, fun hy => ?_⟩
  have h1 := h.left_ y.2
  rw [hl] at h1
  have h2 : issetL l y.2 = true := List.any_eq_true.2 ⟨y, hy, by simp [isKey]⟩
  rw [h2] at h1
  have h3 : issetL xs y.2 = true := by simpa using h1
  obtain ⟨z, hz, hk⟩ := List.any_eq_true.1 (show xs.any (isKey y.2) = true from h3)
  have hk2 : z.2 = y.2 := by simpa [isKey] using hk
  have hzl := h.sub z hz
  have : z = y := key_inj nd hy hzl hk2
  rw [← this]
  exact hz
theorem ranges_chg {F : Nat → Prop} {w w' : World} {bm r n cnt : Nat} {D : DataW Unit} {left : Lit → Bool} (h : w.ranges Try.prog 3 (plainElem Try.prog 3) bm r n D left cnt) (hc : Chg F w w') (hb : ¬ F bm) (hr : ¬ F r) : w'.ranges Try.prog 3 (plainElem Try.prog 3) bm r n D left cnt := by
  obtain ⟨es, clock, since, seen, c0, h1, h2, h3, h4, h5, h6⟩ := h
  exact ⟨es, clock, since, seen, c0, (hc.block bm (Array.getElem?_eq_some_iff.1 h1).1 hb).trans h1, h2, h3, h4, (hc.block r (Array.getElem?_eq_some_iff.1 h5).1 hr).trans h5, h6⟩
/-- The timers that are set to now or earlier. -/
def untV (l : List Tm) (now : Int) : List Tm := l.filter (fun y => decide (y.1 ≤ now))
theorem unt_yes (l : List Tm) (now c x : Int) (h : c ≤ now) : untV (l ++ [(c, x)]) now = untV l now ++ [(c, x)] := by
  unfold untV
  rw [List.filter_append, List.filter_cons_of_pos (by simpa using h)]
  rfl
theorem unt_no (l : List Tm) (now c x : Int) (h : ¬ c ≤ now) : untV (l ++ [(c, x)]) now = untV l now := by
  unfold untV
  rw [List.filter_append, List.filter_cons_of_neg (by simpa using h)]
  exact List.append_nil _
theorem unt_all {l : List Tm} (h : TOk l) : untV l 1000000000000 = l := List.filter_eq_self.2 fun y hy => decide_eq_true (h.rg y hy).2.1
set_option maxHeartbeats 8000000 in
theorem puntil_any (hs : SortsTm) {w : World} {F : Nat → Prop} {b : Nat} {l : List Tm} (now : Int) (h : PW w F b l) :
    Calls Try.prog 24 #[.pointer (some ⟨b, 0, none⟩), .int .i64 now] w fun e w' => (∃ a c, e = .returned (.slice a (untV l now).length c) ∧ OwM w' w.heap.size (.slice a (untV l now).length c) (untV l now)) ∧ Chg F w w' ∧ ∃ F', PW w' F' b l ∧ (∀ k, F' k → F k ∨ w.heap.size ≤ k) ∧ ∀ r g, e = .returned r → r.ownBlock = some g → ¬ F' g := by
  have hFb : F b := by
    obtain ⟨_, o, _, h2, _⟩ := h
    exact (h2 b).2 (.inl rfl)
  have HFB := Lib.hid hFb
  have HT := Lib.hid h.1
  have C1 := Lib.hid (times_any h)
  clear h hFb
  go_enter Try.func24, Try.ntmps24
  go_wp2_with fail
  refine C1.out.mono ?_
  rintro e w2 ⟨bm, D, rfl, hq, hne, hm, hM, hg, hbm⟩
  have HQ := Lib.hid hq
  have HNE := Lib.hid hne
  have HM := Lib.hid hm
  have HMT := Lib.hid hM
  have HG := Lib.hid hg
  have HBM := Lib.hid hbm
  have HML : Hid (bm < w2.heap.size) := hm.lt
  clear hq hne hm hM hg hbm C1
  go_wp2_with (at_range; refine wpList_range_own _ rfl _ 61 rfl 3 3 lawI underMP _ bm _ D rfl HM.out ?_; intro w3 hrg3 hg3 hs3)
  go_frame
  have HR3 := Lib.hid hrg3
  have HB3 : Hid (Below w2.heap.size w2 w3) := (Below.refl _ w2).grown hg3 (Nat.le_refl _) (fun j hj => by cases hj)
  have HS3 := Lib.hid hs3
  clear hrg3 hg3 hs3
  obtain ⟨r, hr⟩ : ∃ r, w2.heap.size = r := ⟨_, rfl⟩
  rw [hr] at HR3 HS3 ⊢
  have HRR := Lib.hid hr
  clear hr
  have hsz : Maps.size D = l.length := HMT.out.size
  have HSZ := Lib.hid hsz
  clear hsz
  go_loopw [5] (fun lv wr => ∃ (left : Lit → Bool) (cnt : Nat) (seen : List Tm) (ax : Option Addr) (cx : Nat), lv = .slice ax (untV seen now).length cx ∧ Hid (wr.ranges Try.prog 3 (plainElem Try.prog 3) bm r (Maps.size D) D left cnt) ∧ Hid (seen.length + cnt ≤ Maps.size D) ∧ Hid (OwM wr (r + 1) (.slice ax (untV seen now).length cx) (untV seen now)) ∧ Hid (Got l seen left) ∧ Hid (Below r w2 wr)) (fun _ wr => wr.rangeLeft bm r)
  case atStart => exact ⟨_, _, [], none, 0, rfl, HR3.out, by show 0 + _ ≤ _; omega, OwM_nil _ _, got_start HMT.out, by rw [← HRR.out]; exact HB3.out⟩
  case round =>
    obtain ⟨left, cnt, seen, ax, cx, rfl, HRG, HCN, HO, HGT, HB⟩ := hrel
    go_wp2_with (at_next; refine wpList_next_ranges_ii _ rfl _ rfl 3 3 .i64 .i64 lawI underI underI bm r _ D _ _ rfl HRG.out ?_ ?_)
    · intro hc0 hl0
      have hp0 := got_end HGT.out HT.out.nd hl0
      have hp : (untV seen now).Perm (untV l now) := hp0.filter _
      have HP := Lib.hid hp
      have hsw : r + 1 ≤ wr.heap.size := HRG.out.lt
      have hsl : (untV seen now).length ≤ 1024 := Nat.le_trans (Nat.le_trans (List.length_filter_le _ _) (Nat.le_of_eq hp0.length_eq)) HT.out.len
      have C2 := Lib.hid (hs wr (r + 1) ax cx (untV seen now) HO.out hsw (HGT.out.nd.sublist (List.filter_sublist.map _)) hsl)
      clear hp hp0 hc0 hl0 hsw hsl
      go_wp2_with fail
      refine C2.out.mono ?_
      rintro e w5 ⟨rfl, ys, hy1, hy2, hy3, hy4⟩
      have hyu : ys = untV l now := srt_eq (hy1.trans HP.out) hy2 (HT.out.srt.sublist List.filter_sublist)
      have hxl : (untV seen now).length = (untV l now).length := HP.out.length_eq
      rw [hyu] at hy3
      rw [hxl] at hy3 hy4 ⊢
      have HY3 := Lib.hid hy3
      have hown : ∀ k, (Value.slice ax (untV l now).length cx).ownBlock = some k → r + 1 ≤ k := fun k hk => (hy3.lt k hk).1
      have hb5 : Below r w2 w5 := HB.out.trans (hy4.below (by have := HB.out.size; have := HRR.out; omega) (fun k hk => by have := hown k hk; omega))
      have hc5 : Chg F w w5 := HG.out.trans (G := fun k => r ≤ k) (chg_of hb5) (fun k hk h => by have := HG.out.size; have := HRR.out; omega)
      have hlt : ∀ k, k < w2.heap.size → ¬ (fun k => r ≤ k) k := fun k hk h => by have := HRR.out; have h' : r ≤ k := h; omega
      have HPW := Lib.hid (pw_mk HT.out (HQ.out.chg (chg_of hb5) (hlt b HQ.out.lt)) HNE.out (HM.out.chg (chg_of hb5) (hlt bm HML.out)) HMT.out)
      have HC5 := Lib.hid hc5
      have HOW := Lib.hid hown
      have HYM := Lib.hid (hy3.mono (show w.heap.size ≤ r + 1 by have := HG.out.size; have := HRR.out; omega))
      clear hy1 hy2 hy3 hy4 hown hb5 hc5 hlt C2 hyu
      go_wp2_with fail
      go_ret
      refine ⟨⟨ax, cx, rfl, HYM.out⟩, HC5.out, _, HPW.out, fun k hk => hk.elim (fun e => .inl (e ▸ HFB.out)) (fun e => e ▸ HBM.out), ?_⟩
      intro r' g hr' hg hF
      obtain rfl : Value.slice ax (untV l now).length cx = r' := by injection hr'
      have h1 := HOW.out g hg
      have h2 := HML.out
      have h3 := HQ.out.lt
      have h4 := HRR.out
      rcases hF with rfl | rfl <;> omega
    · intro x c w4 cnt1 hwx hwc hlx hat hrg1 hlt hg1 hs1 hen
      have hc1 : Chg (fun k => k = r) wr w4 := (Chg.refl _ wr).grown hg1 (fun k hk => .inl (by cases hk; rfl))
      have ho4 := HO.out.chg hc1 (fun k hk e => by have := (HO.out.lt k hk).1; omega)
      have HGS := Lib.hid (got_step HGT.out HMT.out hlx hat)
      have HO4 := Lib.hid ho4
      have HR1 := Lib.hid hrg1
      have HC1 := Lib.hid (HCN.out)
      have hxl : (untV seen now).length ≤ 3000 := by have : (untV seen now).length ≤ seen.length := List.length_filter_le _ _; have := HCN.out; have := HSZ.out; have := HT.out.len; omega
      have HXL := Lib.hid hxl
      have HB4 : Hid (Below r w2 w4) := HB.out.trans (hc1.below (by have := HB.out.size; have := HRR.out; omega) (fun k hk => Nat.le_of_eq hk.symm))
      have HSW : Hid (r + 1 ≤ w4.heap.size) := Nat.le_trans HRG.out.lt hc1.size
      have HLT := Lib.hid hlt
      clear hc1 ho4 hlx hat hrg1 hg1 hs1 hxl hlt hwx hwc
      by_cases hd : c ≤ now
      · have q1 : decide (c ≤ now) = true := decide_eq_true hd
        have HUY := Lib.hid (unt_yes seen now c x hd)
        clear hd
        go_wp2_with (at_builtin; refine mapp2_any rfl (.tmp 19) (.tmp 23) rfl rfl w4 (c, x) rfl (r + 1) (.slice ax (untV seen now).length cx) (untV seen now) rfl rfl HO4.out HXL.out HSW.out ?_; intro g5 c5 w5 ho5 hch5 _; have HO5 := Lib.hid ho5; have HR5 := Lib.hid (ranges_chg HR1.out hch5 (fun e => by have := (HO4.out.lt bm e).1; have := HML.out; have := HRR.out; omega) (fun e => by have := (HO4.out.lt r e).1; omega)); have HB5 : Hid (Below r w2 w5) := HB4.out.trans (hch5.below (Nat.le_of_succ_le HSW.out) (fun k hk => by have := (HO4.out.lt k hk).1; omega)); clear ho5 hch5)
        go_roundw
        case rel =>
          refine ⟨_, cnt1, seen ++ [(c, x)], some ⟨g5, 0, none⟩, c5, by rw [HUY.out, List.length_append]; rfl, HR5.out, ?_, ?_, HGS.out, HB5.out⟩
          · show _ ≤ _
            rw [List.length_append]
            have := HC1.out
            have := HLT.out
            simp only [List.length_cons, List.length_nil]
            omega
          · rw [HUY.out, List.length_append]
            exact HO5.out
        case measure =>
          rw [HR5.out.left_eq, HRG.out.left_eq]
          exact HLT.out
      · have q1 : decide (c ≤ now) = false := decide_eq_false hd
        have HUN := Lib.hid (unt_no seen now c x hd)
        clear hd
        go_wp2_with fail
        go_roundw
        case rel =>
          refine ⟨_, cnt1, seen ++ [(c, x)], ax, cx, by rw [HUN.out], HR1.out, ?_, ?_, HGS.out, HB4.out⟩
          · show _ ≤ _
            rw [List.length_append]
            have := HC1.out
            have := HLT.out
            simp only [List.length_cons, List.length_nil]
            omega
          · rw [HUN.out]
            exact HO4.out
        case measure =>
          rw [HR1.out.left_eq, HRG.out.left_eq]
          exact HLT.out
theorem plist_any (hs : SortsTm) {w : World} {F : Nat → Prop} {b : Nat} {l : List Tm} (h : PW w F b l) :
    Calls Try.prog 19 #[.pointer (some ⟨b, 0, none⟩)] w fun e w' => (∃ a c, e = .returned (.slice a l.length c) ∧ OwM w' w.heap.size (.slice a l.length c) l) ∧ Chg F w w' ∧ ∃ F', PW w' F' b l ∧ (∀ k, F' k → F k ∨ w.heap.size ≤ k) ∧ ∀ r g, e = .returned r → r.ownBlock = some g → ¬ F' g := by
  have C1 := puntil_any hs 1000000000000 h
  rw [unt_all h.1] at C1
  have C2 := Lib.hid C1
  clear h C1
  go_enter Try.func19, Try.ntmps19
  go_wp2_with fail
  refine C2.out.mono ?_
  rintro e w2 ⟨⟨a, c, rfl, ho⟩, hr⟩
  have HO := Lib.hid ho
  have HR := Lib.hid hr
  clear ho hr C2
  go_wp2_with fail
  go_ret
  exact ⟨⟨a, c, rfl, HO.out⟩, HR.out⟩
end Go.Proofs.Ytmgipedpggpkoaa
