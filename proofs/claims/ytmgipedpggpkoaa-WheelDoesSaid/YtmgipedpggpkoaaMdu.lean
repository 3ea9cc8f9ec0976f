/- A wheel over a map that is made once: New, Next, Due. -/
import Derived.Test.YtmgipedpggpkoaaMli
import Derived.Deep.RegionHeld
namespace Go.Proofs.Ytmgipedpggpkoaa
set_option maxRecDepth 100000
open Go.RowKit Go.Maps

theorem pnew_any (w : World) : Calls Try.prog 8 #[] w fun e w' => ∃ b F, e = .returned (.pointer (some ⟨b, 0, none⟩)) ∧ PW w' F b [] ∧ (∀ k, F k → w.heap.size ≤ k) ∧ Below w.heap.size w w' := by
  have hq : Hid (PW (w.alloc (.cells #[.int .u32 0, .int .i32 0, .int .u32 0, .map none] 63)) (fun k => k = w.heap.size) w.heap.size []) :=
    ⟨⟨List.Pairwise.nil, List.nodup_nil, (fun _ hy => nomatch hy), by simp⟩, none, ⟨by simp, by simp, by simp, fun j => by simp⟩, fun k => by simp, fun _ => rfl, (fun bm h => by cases h)⟩
  have hb : Hid (Below w.heap.size w (w.alloc (.cells #[.int .u32 0, .int .i32 0, .int .u32 0, .map none] 63))) := (Below.refl _ w).alloc (Nat.le_refl _) _
  go_enter Try.func8, Try.ntmps8
  go_wp2_with fail
  go_ret
  exact ⟨_, _, rfl, hq.out, fun k hk => Nat.le_of_eq hk.symm, hb.out⟩
/-- The earliest time of those that were seen, and whether one was. -/
def nxS (a : Int × Bool) (y : Tm) : Int × Bool := if a.2 = false ∨ y.1 < a.1 then (y.1, true) else a
def nx (l : List Tm) : Int × Bool := l.foldl nxS (0, false)
theorem nx_app (l : List Tm) (y : Tm) : nx (l ++ [y]) = nxS (nx l) y := by
  unfold nx
  rw [List.foldl_append]
  rfl
theorem nx_acc (l : List Tm) (a : Int) : (l.foldl nxS (a, true)).2 = true ∧ (l.foldl nxS (a, true)).1 ≤ a ∧ (∀ y ∈ l, (l.foldl nxS (a, true)).1 ≤ y.1) ∧ ((l.foldl nxS (a, true)).1 = a ∨ ∃ y ∈ l, (l.foldl nxS (a, true)).1 = y.1) := by
  induction l generalizing a with
  | nil => exact ⟨rfl, Int.le_refl _, (fun _ hy => nomatch hy), .inl rfl⟩
  | cons z r ih =>
    rw [List.foldl_cons]
    by_cases h : z.1 < a
    · have e : nxS (a, true) z = (z.1, true) := by unfold nxS; rw [if_pos (.inr h)]
      rw [e]
      obtain ⟨h1, h2, h3, h4⟩ := ih z.1
      refine ⟨h1, by omega, fun y hy => ?_, .inr ?_⟩
      · rcases List.mem_cons.1 hy with rfl | hy
        · exact h2
        · exact h3 y hy
      · rcases h4 with h4 | ⟨y, hy, h4⟩
        · exact ⟨z, by simp, h4⟩
        · exact ⟨y, by simp [hy], h4⟩
    · have e : nxS (a, true) z = (a, true) := by unfold nxS; rw [if_neg (by rintro (h9 | h9); cases h9; exact h h9)]
      rw [e]
      obtain ⟨h1, h2, h3, h4⟩ := ih a
      refine ⟨h1, h2, fun y hy => ?_, h4.imp (fun h => h) (fun ⟨y, hy, h⟩ => ⟨y, by simp [hy], h⟩)⟩
      rcases List.mem_cons.1 hy with rfl | hy
      · omega
      · exact h3 y hy
theorem nx_end {l xs : List Tm} (hp : xs.Perm l) (hs : l.Pairwise ltT) : nx xs = (nextV l, nextB l) := by
  cases l with
  | nil =>
    obtain rfl := List.Perm.eq_nil hp
    rfl
  | cons y r =>
    cases xs with
    | nil => exact absurd hp.length_eq (by simp)
    | cons z q =>
      have e : nx (z :: q) = q.foldl nxS (z.1, true) := by
        unfold nx
        rw [List.foldl_cons]
        rfl
      rw [e]
      obtain ⟨h1, h2, h3, h4⟩ := nx_acc q z.1
      have hmin : ∀ x ∈ y :: r, y.1 ≤ x.1 := fun x hx => by
        rcases List.mem_cons.1 hx with rfl | hx
        · exact Int.le_refl _
        · have := (List.pairwise_cons.1 hs).1 x hx
          unfold ltT at this
          omega
      have hge : y.1 ≤ (q.foldl nxS (z.1, true)).1 := by
        rcases h4 with h4 | ⟨x, hx, h4⟩
        · rw [h4]; exact hmin z (hp.mem_iff.1 (by simp))
        · rw [h4]; exact hmin x (hp.mem_iff.1 (by simp [hx]))
      have hle : (q.foldl nxS (z.1, true)).1 ≤ y.1 := by
        rcases List.mem_cons.1 (hp.mem_iff.2 (show y ∈ y :: r by simp)) with e | hy
        · rw [e]; exact h2
        · exact h3 y hy
      exact Prod.ext (Int.le_antisymm hle hge) h1
set_option maxHeartbeats 8000000 in
theorem pnext_any {w : World} {F : Nat → Prop} {b : Nat} {l : List Tm} (h : PW w F b l) :
    Calls Try.prog 16 #[.pointer (some ⟨b, 0, none⟩)] w fun e w' => e = .returned (.tuple #[.int .i64 (nextV l), .bool (nextB l)]) ∧ Chg F w w' ∧ ∃ F', PW w' F' b l ∧ ∀ k, F' k → F k ∨ w.heap.size ≤ k := by
  have hFb : F b := by
    obtain ⟨_, o, _, h2, _⟩ := h
    exact (h2 b).2 (.inl rfl)
  have HFB := Lib.hid hFb
  have HT := Lib.hid h.1
  have C1 := Lib.hid (times_any h)
  clear h hFb
  go_enter Try.func16, Try.ntmps16
  go_wp2_with fail
  refine C1.out.mono ?_
  rintro e w2 ⟨bm, D, rfl, hq, hne, hm, hM, hg, hbm⟩
  have HQ := Lib.hid hq
  have HNE := Lib.hid hne
  have HM := Lib.hid hm
  have HMT := Lib.hid hM
  have HG := Lib.hid hg
  have HBM := Lib.hid hbm
  have HML : Hid (bm < w2.heap.size) := hm.lt
  clear hq hne hm hM hg hbm C1
  go_wp2_with (at_range; refine wpList_range_own _ rfl _ 61 rfl 3 3 lawI underMP _ bm _ D rfl HM.out ?_; intro w3 hrg3 hg3 hs3)
  go_frame
  have HR3 := Lib.hid hrg3
  have HB3 : Hid (Below w2.heap.size w2 w3) := (Below.refl _ w2).grown hg3 (Nat.le_refl _) (fun j hj => by cases hj)
  have HS3 := Lib.hid hs3
  clear hrg3 hg3 hs3
  obtain ⟨r, hr⟩ : ∃ r, w2.heap.size = r := ⟨_, rfl⟩
  rw [hr] at HR3 HS3 ⊢
  have HRR := Lib.hid hr
  clear hr
  go_loopw [4, 5] (fun fv sv wr => ∃ (left : Lit → Bool) (cnt : Nat) (seen : List Tm) (f : Int) (s : Bool), fv = .int .i64 f ∧ sv = .bool s ∧ Hid (nx seen = (f, s)) ∧ Hid (wr.ranges Try.prog 3 (plainElem Try.prog 3) bm r (Maps.size D) D left cnt) ∧ Hid (Got l seen left) ∧ Hid (Below r w2 wr)) (fun _ _ wr => wr.rangeLeft bm r)
  case atStart => exact ⟨_, _, [], 0, false, rfl, rfl, rfl, HR3.out, got_start HMT.out, by rw [← HRR.out]; exact HB3.out⟩
  case round =>
    obtain ⟨left, cnt, seen, f, s, rfl, rfl, HNX, HRG, HGT, HB⟩ := hrel
    go_wp2_with (at_next; refine wpList_next_ranges_ii _ rfl _ rfl 3 3 .i64 .i64 lawI underI underI bm r _ D _ _ rfl HRG.out ?_ ?_)
    · intro hc0 hl0
      have hn := nx_end (got_end HGT.out HT.out.nd hl0) HT.out.srt
      rw [HNX.out] at hn
      have hf : f = nextV l := congrArg Prod.fst hn
      have hsv : s = nextB l := congrArg Prod.snd hn
      have HE := Lib.hid (And.intro hf hsv)
      have hb5 : Below r w2 wr := HB.out
      have hc5 : Chg F w wr := HG.out.trans (G := fun k => r ≤ k) (chg_of hb5) (fun k hk h => by have := HG.out.size; have := HRR.out; omega)
      have hlt : ∀ k, k < w2.heap.size → ¬ (fun k => r ≤ k) k := fun k hk h => by have := HRR.out; have h' : r ≤ k := h; omega
      have HPW := Lib.hid (pw_mk HT.out (HQ.out.chg (chg_of hb5) (hlt b HQ.out.lt)) HNE.out (HM.out.chg (chg_of hb5) (hlt bm HML.out)) HMT.out)
      have HC5 := Lib.hid hc5
      clear hn hf hsv hb5 hc5 hlt hc0 hl0
      go_wp2_with fail
      exact bodyPost_ret (v := .tuple #[.int .i64 f, .bool s]) (by simp [results, Try.results16, go_sem]) rfl ⟨by rw [HE.out.1, HE.out.2], HC5.out, _, HPW.out, fun k hk => hk.elim (fun e => .inl (e ▸ HFB.out)) (fun e => e ▸ HBM.out)⟩
    · intro x c w4 cnt1 hwx hwc hlx hat hrg1 hlt hg1 hs1 hen
      have hc1 : Chg (fun k => k = r) wr w4 := (Chg.refl _ wr).grown hg1 (fun k hk => .inl (by cases hk; rfl))
      have HGS := Lib.hid (got_step HGT.out HMT.out hlx hat)
      have HR1 := Lib.hid hrg1
      have HB4 : Hid (Below r w2 w4) := HB.out.trans (hc1.below (by have := HB.out.size; have := HRR.out; omega) (fun k hk => Nat.le_of_eq hk.symm))
      have HLT := Lib.hid hlt
      have hms : w4.rangeLeft bm r < wr.rangeLeft bm r := by
        rw [HR1.out.left_eq, HRG.out.left_eq]
        exact HLT.out
      have HMS := Lib.hid hms
      have hnx : nx (seen ++ [(c, x)]) = nxS (f, s) (c, x) := by rw [nx_app, HNX.out]
      clear hc1 hlx hat hrg1 hg1 hs1 hlt hwx hwc hms
      cases s with
      | false =>
        have HN := Lib.hid (hnx.trans (show nxS (f, false) (c, x) = (c, true) by unfold nxS; rw [if_pos (.inl rfl)]))
        clear hnx
        go_wp2_with fail
        go_roundw
        case rel => exact ⟨_, cnt1, seen ++ [(c, x)], c, true, rfl, rfl, HN.out, HR1.out, HGS.out, HB4.out⟩
        case measure => exact HMS.out
      | true =>
        by_cases hd : c < f
        · have q1 : decide (c < f) = true := decide_eq_true hd
          have HN := Lib.hid (hnx.trans (show nxS (f, true) (c, x) = (c, true) by unfold nxS; rw [if_pos (.inr hd)]))
          clear hnx hd
          go_wp2_with fail
          go_roundw
          case rel => exact ⟨_, cnt1, seen ++ [(c, x)], c, true, rfl, rfl, HN.out, HR1.out, HGS.out, HB4.out⟩
          case measure => exact HMS.out
        · have q1 : decide (c < f) = false := decide_eq_false hd
          have HN := Lib.hid (hnx.trans (show nxS (f, true) (c, x) = (f, true) by unfold nxS; rw [if_neg (by rintro (h9 | h9); cases h9; exact hd h9)]))
          clear hnx hd
          go_wp2_with fail
          go_roundw
          case rel => exact ⟨_, cnt1, seen ++ [(c, x)], f, true, rfl, rfl, HN.out, HR1.out, HGS.out, HB4.out⟩
          case measure => exact HMS.out
theorem iapp2_any {ops : Array Oper} {rest : List Oper} {o : Oper} {a : Act} {Q : Exit → Act → World → Prop} {W : World} (hgd : o.guard = none) (s x : Operand) (hty : o.type = 37)
    (ho : o.op = .call { callee := .builtin .append, args := #[s, x], argTypes := #[37, 37] }) (w : World) (y : Int) (hW : W = w.alloc (.cells #[.int .i64 y] 3)) (S : Nat) (v : Value) (xs : List Int)
    (hs : a.eval s = v) (hx : a.eval x = .slice (some ⟨w.heap.size, 0, none⟩) 1 1) (hown : OwI w S v xs) (hl : xs.length ≤ 3000) (hS : S ≤ w.heap.size)
    (h : ∀ g cap w', OwI w' S (.slice (some ⟨g, 0, none⟩) (xs.length + 1) cap) (xs ++ [y]) → Chg (fun k => v.ownBlock = some k) w w' → (v.ownBlock = some g ∨ w.heap.size ≤ g) → wpList Try.prog ops Q rest (a.put o.dst (.slice (some ⟨g, 0, none⟩) (xs.length + 1) cap)) w') : wpList Try.prog ops Q (o :: rest) a W := by
  subst hW
  have hb : Below w.heap.size w (w.alloc (.cells #[.int .i64 y] 3)) := (Below.refl _ w).alloc (Nat.le_refl _) _
  obtain ⟨g, cap, w1, hr, h2, h3, _⟩ := run_gapp (R := RI) (w.alloc (.cells #[.int .i64 y] 3)) 37 S v xs (hown.below hb) w.heap.size y (gc_alloc RI w y _ rfl 3) hl (Nat.le_trans hS hb.size)
  obtain ⟨g2, cap2, w2, hr2, _, _, h5⟩ := run_gapp2 RI (w.alloc (.cells #[.int .i64 y] 3)) 37 S v xs (hown.below hb) w.heap.size y (gc_alloc RI w y _ rfl 3) hl (Nat.le_trans hS hb.size)
  have e := hr.symm.trans hr2
  simp only [Result.ok.injEq, Value.slice.injEq, Option.some.injEq, Addr.mk.injEq, and_true, true_and] at e
  obtain ⟨⟨e1, _⟩, _⟩ := e
  refine wpList_plain hgd fun K hK => ?_
  unfold Oper.wp
  rw [gexec_append ho hs hx (by rw [hty]; exact hr)]
  refine hK _ _ (h g cap w1 h2 (((Chg.refl _ w).alloc _).grown h3 (fun k hk => .inl hk)) ((e1 ▸ h5).imp (fun h => h) (fun h => Nat.le_trans hb.size h)))
theorem PW.chg {G : Nat → Prop} {w w' : World} {F : Nat → Prop} {b : Nat} {l : List Tm} (h : PW w F b l) (hc : Chg G w w') (hn : ∀ k, F k → ¬ G k) : PW w' F b l := by
  obtain ⟨h0, o, h1, h2, h3, h4⟩ := h
  refine ⟨h0, o, h1.chg hc (hn b ((h2 b).2 (.inl rfl))), h2, h3, fun bm e => ?_⟩
  obtain ⟨j1, j2, D, j3, j4⟩ := h4 bm e
  exact ⟨j1, Nat.lt_of_lt_of_le j2 hc.size, D, j3.chg hc (hn bm ((h2 bm).2 (.inr e))), j4⟩
theorem PW.lt {w : World} {F : Nat → Prop} {b : Nat} {l : List Tm} (h : PW w F b l) : ∀ k, F k → k < w.heap.size := by
  obtain ⟨h0, o, h1, h2, h3, h4⟩ := h
  intro k hk
  rcases (h2 k).1 hk with rfl | e
  · exact h1.lt
  · exact (h4 k e).2.1
theorem drop_stop {l : List Tm} (h : TOk l) {k : Nat} (hk : k < l.length) : stopL (l.drop k) (l.getD k zTm).2 = l.drop (k + 1) ∧ issetL (l.drop k) (l.getD k zTm).2 = true := by
  have e := tm_drop hk
  have hn : ((l.drop k).map (·.2)).Nodup := h.nd.sublist ((List.drop_sublist k l).map _)
  rw [e] at hn ⊢
  rw [List.map_cons, List.nodup_cons] at hn
  refine ⟨?_, ?_⟩
  · unfold stopL
    rw [List.filter_cons_of_neg (by simp [isKey])]
    refine List.filter_eq_self.2 fun y hy => ?_
    have hne : y.2 ≠ (l.getD k zTm).2 := fun e => hn.1 (List.mem_map.2 ⟨y, hy, e⟩)
    simpa [isKey] using hne
  · unfold issetL
    rw [List.any_cons]
    simp [isKey]
theorem tok_drop {l : List Tm} (h : TOk l) (k : Nat) : TOk (l.drop k) :=
  ⟨h.srt.sublist (List.drop_sublist k l), h.nd.sublist ((List.drop_sublist k l).map _), fun y hy => h.rg y (List.mem_of_mem_drop hy), Nat.le_trans (by rw [List.length_drop]; omega) h.len⟩
theorem unt_take {l : List Tm} (h : l.Pairwise ltT) (now : Int) : untV l now = l.takeWhile (fun y => decide (y.1 ≤ now)) := by
  unfold untV
  induction l with
  | nil => rfl
  | cons y r ih =>
    obtain ⟨h1, h2⟩ := List.pairwise_cons.1 h
    by_cases hp : y.1 ≤ now
    · rw [List.filter_cons_of_pos (by simpa using hp), List.takeWhile_cons_of_pos (by simpa using hp), ih h2]
    · rw [List.filter_cons_of_neg (by simpa using hp), List.takeWhile_cons_of_neg (by simpa using hp)]
      refine List.filter_eq_nil_iff.2 fun z hz => ?_
      have := h1 z hz
      unfold ltT at this
      simp only [decide_eq_true_eq]
      omega
theorem unt_due {l : List Tm} (h : l.Pairwise ltT) (now : Int) : ∃ n, n ≤ l.length ∧ untV l now = l.take n ∧ (untV l now).length = n ∧ dueK l now = (l.take n).map (·.2) ∧ (dueK l now).length = n ∧ dueL l now = l.drop n := by
  have e1 := unt_take h now
  have e2 : l.takeWhile (fun y => decide (y.1 ≤ now)) ++ l.dropWhile (fun y => decide (y.1 ≤ now)) = l := List.takeWhile_append_dropWhile
  obtain ⟨t, ht⟩ : ∃ t, l.takeWhile (fun y => decide (y.1 ≤ now)) = t := ⟨_, rfl⟩
  obtain ⟨d, hd⟩ : ∃ d, l.dropWhile (fun y => decide (y.1 ≤ now)) = d := ⟨_, rfl⟩
  have hk : dueK l now = t.map (·.2) := by unfold dueK; rw [ht]
  have hl : dueL l now = d := by unfold dueL; rw [hd]
  rw [ht] at e1
  rw [ht, hd] at e2
  have h3 : l.take t.length = t := by rw [← e2]; exact List.take_left
  have h4 : l.drop t.length = d := by rw [← e2]; exact List.drop_left
  refine ⟨t.length, ?_, by rw [h3, e1], by rw [e1], by rw [h3, hk], by rw [hk, List.length_map], by rw [h4, hl]⟩
  rw [← e2, List.length_append]
  omega
set_option maxHeartbeats 16000000 in
theorem pdue_any (hs : SortsTm) {w : World} {F : Nat → Prop} {b : Nat} {l : List Tm} (now : Int) (hI : ∀ y ∈ l, I64 y.2) (h : PW w F b l) :
    Calls Try.prog 14 #[.pointer (some ⟨b, 0, none⟩), .int .i64 now] w fun e w' => (∃ a c, e = .returned (.slice a (dueK l now).length c) ∧ OwI w' w.heap.size (.slice a (dueK l now).length c) (dueK l now)) ∧ Chg F w w' ∧ ∃ F', PW w' F' b (dueL l now) ∧ (∀ k, F' k → F k ∨ w.heap.size ≤ k) ∧ ∀ r g, e = .returned r → r.ownBlock = some g → ¬ F' g := by
  have HT := Lib.hid h.1
  have HI := Lib.hid hI
  have C1 := puntil_any hs now h
  obtain ⟨n, hn0, hn1, hn2, hn3, hn4, hn5⟩ := unt_due h.1.srt now
  rw [hn2, hn1] at C1
  rw [hn4, hn3, hn5]
  have C1 := Lib.hid C1
  clear h hI hn1 hn2 hn3 hn4 hn5
  go_enter Try.func14, Try.ntmps14
  go_wp2_with fail
  refine C1.out.mono ?_
  rintro e w2 ⟨⟨al, cl, rfl, ho⟩, hg, F2, hp, hF, hn⟩
  have HO2 := Lib.hid ho
  have HG2 := Lib.hid hg
  have HP2 := Lib.hid hp
  have HF2 := Lib.hid hF
  have HN2 : Hid (∀ g, (Value.slice al n cl).ownBlock = some g → ¬ F2 g) := fun g h => hn _ g rfl h
  have hl64 : l.length ≤ 1024 := HT.out.len
  have HNL := Lib.hid hn0
  clear ho hg hp hF hn C1 hn0
  have hn64 : n ≤ 1024 := Nat.le_trans HNL.out hl64
  go_wp2_with fail
  go_loopw [5, 14] (fun lv i wr => ∃ (k : Nat) (ax : Option Addr) (cx : Nat) (Fk : Nat → Prop), k ≤ n ∧ i = .int .i64 k ∧ lv = .slice ax k cx ∧ Hid (PW wr Fk b (l.drop k)) ∧ Hid (∀ g, Fk g → F g ∨ w.heap.size ≤ g) ∧ Hid (OwM wr w.heap.size (.slice al n cl) (l.take n)) ∧ Hid (∀ g, (Value.slice al n cl).ownBlock = some g → ¬ Fk g) ∧ Hid (OwI wr w2.heap.size (.slice ax k cx) ((l.take k).map (·.2))) ∧ Hid (∀ g, (Value.slice ax k cx).ownBlock = some g → ¬ Fk g) ∧ Hid (Chg F w wr) ∧ Hid (w2.heap.size ≤ wr.heap.size)) (fun _ i _ => n - (intOf i).toNat)
  case atStart => exact ⟨0, none, 0, F2, Nat.zero_le _, rfl, rfl, HP2.out, HF2.out, HO2.out, HN2.out, OwI_nil w2 _, (fun g h => by cases h), HG2.out, Nat.le_refl _⟩
  case round =>
    obtain ⟨k, ax, cx, Fk, hk, rfl, rfl, HP, HF, HL, HLN, HV, HVN, HG, HSW⟩ := hrel
    by_cases hlt : k < n
    · have hnl := HNL.out
      have htn : (l.take n).length = n := by rw [List.length_take]; omega
      have hlo := HL.out.ms
      rw [show Value.slice al n cl = .slice al (l.take n).length cl by rw [htn]] at hlo
      obtain ⟨b2, off, rfl, hB, p0, p1⟩ := hlo.at (i := k) (by omega)
      have hgt : (l.take n).getD k zTm = l.getD k zTm := by simp [List.getD, hlt]
      rw [hgt] at p0 p1
      have hll : k < l.length := by omega
      have htk := tm_take l k hll
      obtain ⟨hd1, hd2⟩ := drop_stop HT.out hll
      have hmem : l.getD k zTm ∈ l := by simp [List.getD, hll]
      obtain ⟨y, hy⟩ : ∃ y, l.getD k zTm = y := ⟨_, rfl⟩
      rw [hy] at p0 p1 htk hd1 hd2 hmem
      have HTK := Lib.hid htk
      have HD1 := Lib.hid hd1
      have HD2 := Lib.hid hd2
      have HMEM := Lib.hid hmem
      have HY := Lib.hid hy
      have hml : ((l.take k).map (·.2)).length = k := by rw [List.length_map, List.length_take]; omega
      have HML := Lib.hid hml
      have HXL : Hid (((l.take k).map (·.2)).length ≤ 3000) := by show _ ≤ _; rw [hml]; omega
      obtain ⟨w3, hw3⟩ : ∃ w3, wr.alloc (.cells #[.int .i64 y.1, .int .i64 y.2] 32) = w3 := ⟨_, rfl⟩
      have hb3 : Below wr.heap.size wr w3 := hw3 ▸ (Below.refl _ wr).alloc (Nat.le_refl _) _
      have HV3 : Hid (C2 w3 wr.heap.size 0 y) := gc_two (hw3 ▸ gc_alloc RM wr y _ rfl 32)
      have HPW3 : Hid (PW w3 Fk b (l.drop k)) := HP.out.chg (G := fun _ => False) (chg0 hb3) (fun _ _ h => h)
      have HL3 := Lib.hid (HL.out.below hb3)
      have HI3 := Lib.hid (HV.out.below hb3)
      have HG3 : Hid (Chg F w w3) := HG.out.trans (G := fun _ => False) (chg0 hb3) (fun _ _ h => h.elim)
      have HS3 : Hid (w3.heap.size = wr.heap.size + 1) := by show _ = _; rw [← hw3]; simp
      have HOG : Hid (∀ g, (Value.slice ax k cx).ownBlock = some g → g < wr.heap.size) := fun g hg => (HV.out.lt g (by exact hg)).2
      have HLG : Hid (∀ g, (Value.slice (some ⟨b2, off, none⟩) n cl).ownBlock = some g → g < w2.heap.size) := fun g hg => (HO2.out.lt g hg).2
      clear hml htk hd1 hd2 hmem hy hb3 hlo hgt hnl hll
      go_upto_region 7 with (fail)
      clear p0 p1 hw3
      obtain ⟨u0, u1⟩ := HV3.out
      simp only [Nat.zero_add] at u0 u1
      go_wp2_with (at_builtin; refine iapp2_any rfl (.tmp 18) (.tmp 21) rfl rfl w3 y.2 rfl w2.heap.size (.slice ax k cx) ((l.take k).map (·.2)) rfl rfl HI3.out HXL.out (Nat.le_trans HSW.out (by have := HS3.out; omega)) ?_; intro g4 c4 w4 ho4 hch4 hg4; rw [HML.out]; rw [HML.out] at ho4; have HV4 := Lib.hid ho4; have HC4 := Lib.hid hch4; have HG4 := Lib.hid hg4; clear ho4 hch4 hg4)
      have HP4 : Hid (PW w4.drew Fk b (l.drop k)) := (HPW3.out.chg HC4.out (fun g hg e => HVN.out g e hg)).chg (G := fun _ => False) (Chg.refl _ w4).drew (fun _ _ h => h)
      have HBW : Hid (∀ g, Fk g → g < wr.heap.size) := HP.out.lt
      obtain ⟨g3, hg3⟩ : ∃ g3, wr.heap.size = g3 := ⟨_, rfl⟩
      have v1 : w4.cell? ⟨g3, 1, none⟩ = some (.int .i64 y.2) := by
        rw [← hg3]
        exact (HC4.out.cell (by have := HS3.out; omega) (fun e => by have := HOG.out _ e; omega)).trans u1
      have HG3N := Lib.hid hg3
      rw [hg3]
      clear u0 u1 hg3
      have C2 := Lib.hid (times_any HP4.out)
      have v2 : w4.drew.cell? ⟨g3, 1, none⟩ = some (.int .i64 y.2) := v1
      go_region_held (fun w' => w'.cell? ⟨g3, 1, none⟩ = some (.int .i64 y.2)) (first | exact v2 | exact v3 | exact v4 | go_keep) (first
        | (go_at_call 21; refine C2.out.mono ?_; rintro e w5 ⟨bm, D, rfl, hq5, hne5, hm5, hM5, hg5, hbm5⟩; obtain ⟨w6, hdel, hm6, ht6⟩ := hm5.drop lawI underMP (keyOf_int_mk underI (wfI (HI.out y HMEM.out))) 0; have v3 : w5.cell? ⟨g3, 1, none⟩ = some (.int .i64 y.2) := (hg5.cell (World.block_lt_of_cell? _ _ v2) (fun h => by have := HBW.out g3 h; have := HG3N.out; omega)).trans v2; have hgb : ¬ g3 = bm := fun e => hbm5.elim (fun h => by have := HBW.out bm h; have := HG3N.out; omega) (fun h => by have h9 : w4.heap.size ≤ bm := h; have h8 : g3 < w4.heap.size := World.block_lt_of_cell? _ _ v1; omega); have v4 : w6.cell? ⟨g3, 1, none⟩ = some (.int .i64 y.2) := ((turned_chg ht6).cell (World.block_lt_of_cell? _ _ v3) hgb).trans v3; have HQ5 := Lib.hid hq5; have HNE5 := Lib.hid hne5; have HM5 := Lib.hid hM5; have HG5 := Lib.hid hg5; have HBM5 := Lib.hid hbm5; have HM6 := Lib.hid hm6; have HT6 := Lib.hid (turned_chg ht6); clear hq5 hne5 hM5 hg5 hbm5 hm6 ht6 hm5))
      have HM7 := Lib.hid ((HM5.out.del (tok_drop HT.out k).nd y.2))
      have hch6 : Hid (Chg (fun g => Fk g ∨ w4.heap.size ≤ g) w4 w6) := ((Chg.refl (fun g => Fk g ∨ w4.heap.size ≤ g) w4).drew.trans (G := Fk) HG5.out (fun g _ h => .inl h)).trans HT6.out (fun g _ e => e ▸ HBM5.out)
      have HB4 : Hid (Fk b) := HP4.out.2.elim (fun o h => (h.2.1 b).2 (.inl rfl))
      clear C2 v1 v2 v3 v4 hdel
      have hsz2 : w.heap.size ≤ w2.heap.size := HG2.out.size
      have hsz4 : w3.heap.size ≤ w4.heap.size := HC4.out.size
      have hs3 := HS3.out
      have hsw := HSW.out
      have hbF := HB4.out
      have hg4 : ¬ Fk g4 := fun h => HG4.out.elim (fun e => HVN.out g4 e h) (fun e => by have := HBW.out g4 h; omega)
      have hg4l : g4 < w4.heap.size := (HV4.out.lt g4 rfl).2
      have hg4m : ∀ g, (g = b ∨ g = bm) → ¬ g = g4 := fun g hg e => by
        subst e
        rcases hg with rfl | rfl
        · exact hg4 hbF
        · rcases HBM5.out with h | h
          · exact hg4 h
          · have h9 : w4.heap.size ≤ g := h
            omega
      have hll : ∀ g, (Value.slice (some ⟨b2, off, none⟩) n cl).ownBlock = some g → ¬ (g = b ∨ g = bm) := fun g hg hh => by
        have h1 := HLN.out g hg
        have h2 := HLG.out g hg
        rcases hh with rfl | rfl
        · exact h1 hbF
        · rcases HBM5.out with h | h
          · exact h1 h
          · have h9 : w4.heap.size ≤ g := h
            omega
      have hax : ∀ g, (Value.slice ax k cx).ownBlock = some g → w2.heap.size ≤ g := fun g hg => (HV.out.lt g hg).1
      have X1 : Hid (PW w6 (fun g => g = b ∨ g = bm) b (l.drop (k + 1))) := pw_mk (tok_drop HT.out (k + 1)) (HQ5.out.chg HT6.out (fun e => HNE5.out e.symm)) HNE5.out (MapI.tight HM6.out) (HD1.out ▸ HM7.out)
      have X2 : Hid (∀ g, (g = b ∨ g = bm) → F g ∨ w.heap.size ≤ g) := fun g hg => by
        rcases hg with rfl | rfl
        · exact HF.out _ hbF
        · rcases HBM5.out with h | h
          · exact HF.out _ h
          · have h9 : w4.heap.size ≤ g := h
            exact .inr (by omega)
      have hl4 := HL3.out.chg HC4.out (fun g hg e => by have := HLG.out g hg; have := hax g e; omega)
      have X3 : Hid (OwM w6 w.heap.size (.slice (some ⟨b2, off, none⟩) n cl) (l.take n)) := hl4.chg hch6.out (fun g hg h => by
        rcases h with h | h
        · exact HLN.out g hg h
        · have := HLG.out g hg
          omega)
      have X4 : Hid (OwI w6 w2.heap.size (.slice (some ⟨g4, 0, none⟩) (k + 1) c4) ((l.take k).map (·.2) ++ [y.2])) := HV4.out.chg hch6.out (fun g hg h => by
        have e : g4 = g := Option.some.inj hg
        subst e
        rcases h with h | h
        · exact hg4 h
        · have h9 : w4.heap.size ≤ g4 := h
          omega)
      have X5 : Hid (Chg F w w6) := (HG3.out.trans HC4.out (fun g hg e => by have := hax g e; omega)).trans hch6.out (fun g hg h => by
        rcases h with h | h
        · exact (HF.out g h).elim (fun h => h) (fun h => by omega)
        · omega)
      have X6 : Hid (w2.heap.size ≤ w6.heap.size) := by have := hch6.out.size; show _ ≤ _; omega
      have X7 := Lib.hid hll
      have X8 := Lib.hid hg4m
      clear hsz2 hsz4 hs3 hsw hbF hg4 hg4l hg4m hll hax hl4
      go_wp2_with fail
      go_roundw
      case rel =>
        refine ⟨k + 1, some ⟨g4, 0, none⟩, c4, _, by omega, by go_num, rfl, X1.out, X2.out, X3.out, X7.out, ?_, fun g hg h => ?_, X5.out, X6.out⟩
        · rw [HTK.out, List.map_append]
          exact X4.out
        · have e : g4 = g := Option.some.inj hg
          exact X8.out g h e.symm
      case measure => simp [intOf]; omega
    · obtain rfl : k = n := by omega
      go_wp2_with fail
      go_ret
      refine ⟨⟨_, _, rfl, HV.out.mono HG2.out.size⟩, HG.out, Fk, HP.out, HF.out, fun r g hr hg => ?_⟩
      obtain rfl : Value.slice ax k cx = r := by injection hr
      exact HVN.out g hg
end Go.Proofs.Ytmgipedpggpkoaa
