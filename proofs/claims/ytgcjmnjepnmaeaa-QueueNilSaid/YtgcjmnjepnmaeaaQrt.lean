/- The reference's queue: Take. No conditions but on lengths. -/
import Derived.Test.YtgcjmnjepnmaeaaQrc
namespace Go.Proofs.Ytgcjmnjepnmaeaa
set_option maxRecDepth 100000
open Go.RowKit

/-- The first one to d, and the others. -/
def takeV (l : List Pk) (d : Int) : Pk := (l.find? (isTo d)).getD zPk
def takeE (l : List Pk) (d : Int) : Int := if l.any (isTo d) then 0 else 7
def takeL (l : List Pk) (d : Int) : List Pk := l.eraseP (isTo d)
theorem take_at {l : List Pk} {d : Int} {k : Nat} (h : k < l.length) (hb : ∀ i, i < k → (l.getD i zPk).2.1 ≠ d) (hk : (l.getD k zPk).2.1 = d) :
    takeV l d = l.getD k zPk ∧ takeE l d = 0 ∧ takeL l d = l.take k ++ l.drop (k + 1) := by
  induction k generalizing l with
  | zero =>
    cases l with
    | nil => simp at h
    | cons y r =>
      have hy : isTo d y = true := by simpa [isTo] using hk
      simp [takeV, takeE, takeL, hy]
  | succ k ih =>
    cases l with
    | nil => simp at h
    | cons y r =>
      have hy : isTo d y = false := by have := hb 0 (by omega); simpa [isTo] using this
      obtain ⟨h1, h2, h3⟩ := ih (l := r) (by simpa using h) (fun i hi => by have := hb (i + 1) (by omega); simpa using this) (by simpa using hk)
      refine ⟨?_, ?_, ?_⟩
      · rw [List.getD_cons_succ, ← h1]; simp [takeV, hy]
      · rw [← h2]; unfold takeE; rw [List.any_cons, hy, Bool.false_or]
      · rw [List.take_succ_cons, List.drop_succ_cons, List.cons_append, ← h3]; simp [takeL, hy]
theorem take_no {l : List Pk} {d : Int} (hb : ∀ i, i < l.length → (l.getD i zPk).2.1 ≠ d) : takeV l d = zPk ∧ takeE l d = 7 ∧ takeL l d = l := by
  have h : ∀ y ∈ l, isTo d y = false := by
    intro y hy
    obtain ⟨i, hi, rfl⟩ := List.mem_iff_getElem.1 hy
    have := hb i hi
    simpa [isTo, List.getD, hi] using this
  refine ⟨?_, ?_, ?_⟩
  · unfold takeV
    rw [List.find?_eq_none.2 (fun y hy => by rw [h y hy]; simp)]
    rfl
  · unfold takeE
    rw [if_neg]
    intro h1
    obtain ⟨y, hy, h2⟩ := List.any_eq_true.1 h1
    rw [h y hy] at h2; cases h2
  · unfold takeL
    exact List.eraseP_of_forall_not (fun y hy => by rw [h y hy]; simp)
theorem ks_take {w : World} {b off c k : Nat} {l : List Pk} (h : Ks w (.slice (some ⟨b, off, none⟩) l.length c) l) (hk : k < l.length) : Ks w (.slice (some ⟨b, off, none⟩) k c) (l.take k) := by
  obtain ⟨h2, h3, h4⟩ := h.opn (by omega)
  refine Ks.mk (by rw [List.length_take]; omega) (by omega) h3 fun i hi => ?_
  have e : (l.take k).getD i zPk = l.getD i zPk := by simp [List.getD, hi]
  rw [e]; exact h4 i (by omega)
theorem ks_drop {w : World} {b off c c' k o' : Nat} {l : List Pk} (h : Ks w (.slice (some ⟨b, off, none⟩) l.length c) l) (hk : k < l.length) (ho : k + 1 < l.length → o' = off + (k + 1) * 5) (hc : l.length - (k + 1) ≤ c') : Ks w (.slice (some ⟨b, o', none⟩) (l.length - (k + 1)) c') (l.drop (k + 1)) := by
  obtain ⟨h2, h3, h4⟩ := h.opn (by omega)
  by_cases h0 : k + 1 < l.length
  · obtain rfl := ho h0
    refine Ks.mk List.length_drop hc h3 fun i hi => ?_
    have e : (l.drop (k + 1)).getD i zPk = l.getD (k + 1 + i) zPk := by simp [List.getD, List.getElem?_drop]
    have e2 : off + (k + 1) * 5 + i * 5 = off + (k + 1 + i) * 5 := by omega
    rw [e, e2]; exact h4 (k + 1 + i) (by omega)
  · have e : l.drop (k + 1) = [] := List.drop_eq_nil_of_le (by omega)
    rw [e, show l.length - (k + 1) = 0 by omega]
    exact .inl ⟨some ⟨b, o', none⟩, c', rfl, (fun h => by cases h), rfl⟩
theorem put5_chg (w : World) (b : Nat) (s d t n : Int) (x : ByteArray) : Chg (fun k => k = b) w (put5 w b s d t n x) :=
  ((((Chg.setCell (F := fun k => k = b) (p := ⟨b, 0, none⟩) (Chg.refl _ w) (.inl rfl) _).setCell (p := ⟨b, 1, none⟩) (.inl rfl) _).setCell (p := ⟨b, 2, none⟩) (.inl rfl) _).setCell (p := ⟨b, 3, none⟩) (.inl rfl) _).setCell (p := ⟨b, 4, none⟩) (.inl rfl) _
set_option maxHeartbeats 16000000 in
theorem rqtake_any (b : Nat) (m : Int) (v : Value) (l : List Pk) (d : Int) (w : World) (h : RQ w b m v l) (hl : l.length ≤ 2000) :
    Calls Try.prog 14 #[.pointer (some ⟨b, 0, none⟩), .int .i64 d] w fun e w' => e = .returned (.tuple #[pkV (takeV l d), .int .i64 (takeE l d)]) ∧ Chg (QF b v) w w' ∧ ∃ v', RQ w' b m v' (takeL l d) ∧ ∀ g, v'.ownBlock = some g → v.ownBlock = some g ∨ w.heap.size ≤ g := by
  obtain ⟨a, c, rfl⟩ := h.own.form
  obtain ⟨w1, hw1⟩ : ∃ w1, w.alloc (.cells #[.int .i64 0, .int .i64 0, .int .i64 0, .int .i64 0, .string ⟨#[]⟩] 34) = w1 := ⟨_, rfl⟩
  have hb0 : Below w.heap.size w w1 := hw1 ▸ (Below.refl _ w).alloc (Nat.le_refl _) _
  have OV := Lib.hid (hw1 ▸ ownp_alloc w 0 0 0 0 ⟨#[]⟩ 34 w.heap.size rfl : OwnP w1 w.heap.size 0 0 0 0 ⟨#[]⟩)
  have HQ := Lib.hid (h.below hb0)
  have HB := Lib.hid hb0
  have HW := Lib.hid h.lt
  have HRW : Hid (∀ k, (Value.slice a l.length c).ownBlock = some k → b + 1 ≤ k ∧ k < w.heap.size) := fun k hk => h.own.lt k hk
  have HS1 : Hid (w1.heap.size = w.heap.size + 1) := by show _ = _; rw [← hw1]; simp
  clear h hb0
  obtain ⟨⟨u0, u1, u2, u3, u4⟩, uf⟩ := OV.out
  obtain ⟨c0, c1, cf⟩ := HQ.out.cells
  have HK : Hid (Ks w1 (.slice a l.length c) l) := HQ.out.own.ks
  go_enter Try.func14, Try.ntmps14
  go_upto_region 1 with (fail)
  clear hw1
  go_wp2_with fail
  go_loopw [6] (fun i wr => ∃ k : Nat, k ≤ l.length ∧ i = .int .i64 k ∧ (∀ i, i < k → (l.getD i zPk).2.1 ≠ d) ∧ w1 = wr) (fun i _ => l.length - (intOf i).toNat)
  case atStart => exact ⟨0, Nat.zero_le _, rfl, fun i h => absurd h (Nat.not_lt_zero _), rfl⟩
  case round =>
    obtain ⟨k, hk, rfl, hno, rfl⟩ := hrel
    have HNO := Lib.hid hno
    clear hno
    by_cases hlt : k < l.length
    · obtain ⟨b2, off, rfl, hB, p0, p1, p2, p3, p4⟩ := HK.out.at hlt
      obtain ⟨y, hy⟩ : ∃ y, l.getD k zPk = y := ⟨_, rfl⟩
      rw [hy] at p0 p1 p2 p3 p4
      have HY := Lib.hid hy
      clear hy
      by_cases hd : y.2.1 = d
      · have hq : (y.2.1 == d) = true := by simpa using hd
        have HD := Lib.hid hd
        clear hd
        have HK2 : Hid (∀ w2, w1.alloc (.cells #[.int .i64 y.1, .int .i64 y.2.1, .int .i64 y.2.2.1, .int .i64 y.2.2.2.1, .string y.2.2.2.2] 34) = w2 → Below w1.heap.size w1 w2 ∧ OwnP w2 w1.heap.size y.1 y.2.1 y.2.2.1 y.2.2.2.1 y.2.2.2.2 ∧ w2.heap.size = w1.heap.size + 1) := fun w2 e => by
          subst e
          exact ⟨(Below.refl _ w1).alloc (Nat.le_refl _) _, ownp_alloc w1 _ _ _ _ _ 34 w1.heap.size rfl, by simp⟩
        go_upto_region 7 with (fail)
        obtain ⟨w2, hw2⟩ : ∃ w2, w1.alloc (.cells #[.int .i64 y.1, .int .i64 y.2.1, .int .i64 y.2.2.1, .int .i64 y.2.2.2.1, .string y.2.2.2.2] 34) = w2 := ⟨_, rfl⟩
        obtain ⟨hb2, op2, hs2⟩ := HK2.out w2 hw2
        simp only [hw2]
        have hq2 := HQ.out.below hb2
        have hk2 := HK.out.below hb2
        have hv2 := OV.out.below hb2
        have hbb : b + 1 ≤ w2.heap.size := hq2.lt
        have ht := ks_take hk2 hlt
        obtain ⟨r1, w3, hr1, ho3, hg3, hb3⟩ := run_gappg w2 30 (b + 1) (.slice none 0 0) [] (OwK_nil w2 (b + 1)) (.slice (some ⟨b2, off, none⟩) k c) (l.take k) ht (by simp; omega) hbb
        obtain ⟨a1, n1, c1', hr1'⟩ : ∃ a n c, r1 = .slice a n c := by obtain ⟨a, c, h⟩ := ho3.form; exact ⟨_, _, _, h⟩
        subst hr1'
        have h23 : Below w2.heap.size w2 w3 := (Below.refl _ w2).grown hg3 (Nat.le_refl _) (fun k hk => by cases hk)
        have hq3 := hq2.below h23
        have hk3 := hk2.below h23
        have hv3 := hv2.below h23
        have op3 := op2.below h23
        have HR1 := Lib.hid hr1
        have HQ2 := Lib.hid hq2
        have HQ3 := Lib.hid hq3
        have HK3 := Lib.hid hk3
        have HV3 := Lib.hid hv3
        have OP3 := Lib.hid op3
        have HO3 : Hid (OwK w3 (b + 1) (.slice a1 n1 c1') (l.take k)) := ho3
        have HB3 : Hid (∀ g, (Value.slice a1 n1 c1').ownBlock = some g → w2.heap.size ≤ g) := fun g hg => (hb3 g hg).elim (fun h => by cases h) (fun h => h)
        have HC3 := Lib.hid (HB.out.trans ((hb2.trans (h23.mono (by omega))).mono HB.out.size))
        have HS2 := Lib.hid hs2
        have HS3 := Lib.hid h23.size
        have HLT := Lib.hid hlt
        clear hb2 op2 hs2 hw2 hq2 hk2 hv2 hbb ht hr1 ho3 hg3 hb3 h23 hq3 hk3 hv3 op3 HK2 u0 u1 u2 u3 u4 uf c0 c1 cf p0 p1 p2 p3 p4
        have c2 := HQ2.out.cells.2.1
        have hkc : k ≤ c := by have := (HK.out.opn (by omega)).1; omega
        have hkc2 : k + 1 ≤ c := by have := (HK.out.opn (by omega)).1; omega
        have hlc : l.length ≤ c := (HK.out.opn (by omega)).1
        obtain ⟨o', ho', ho2⟩ : ∃ o', (if c = k + 1 then (some ⟨b2, off, none⟩ : Option Addr) else some ⟨b2, off + (k + 1) * 5, none⟩) = some ⟨b2, o', none⟩ ∧ (k + 1 < l.length → o' = off + (k + 1) * 5) := by
          by_cases hc : c = k + 1
          · exact ⟨off, by rw [if_pos hc], fun h => by omega⟩
          · exact ⟨off + (k + 1) * 5, by rw [if_neg hc], fun _ => rfl⟩
        have hdr := ks_drop (c' := c - (k + 1)) HK3.out hlt ho2 (by omega)
        have hlk : (l.take k).length = k := by rw [List.length_take]; omega
        have hld : (l.drop (k + 1)).length = l.length - (k + 1) := List.length_drop
        obtain ⟨r2, w4, hr2, ho4, hg4, hb4⟩ := run_gappg w3 30 (b + 1) (.slice a1 n1 c1') (l.take k) HO3.out (.slice (some ⟨b2, o', none⟩) (l.length - (k + 1)) (c - (k + 1))) (l.drop (k + 1)) hdr (by omega) HQ3.out.lt
        obtain ⟨ar, nr, cr, hrr⟩ : ∃ a n c, r2 = .slice a n c := by obtain ⟨a, c, h⟩ := ho4.form; exact ⟨_, _, _, h⟩
        have h34 : Chg (fun g => w2.heap.size ≤ g) w3 w4 := (Chg.refl _ w3).grown hg4 (fun g hg => .inl (HB3.out g hg))
        have hsz : w.heap.size + 2 = w2.heap.size := by rw [HS2.out, HS1.out]
        have hq4 := HQ3.out.chg h34 (fun g hg hn => by
          rcases hg with h | h
          · have := HW.out; omega
          · have := (HRW.out g h).2; omega)
        have hv4 := HV3.out.chg h34 (by omega)
        have op4 := OP3.out.chg h34 (by rw [HS1.out]; omega)
        have hc4 : Chg (QF b (.slice (some ⟨b2, off, none⟩) l.length c)) w w4 := (chg0 HC3.out).trans h34 (fun x hx h => by omega)
        have hp4 := hq4.hp
        subst hrr
        have HR2 := Lib.hid hr2
        obtain ⟨w5, hw5⟩ : ∃ w5, w4.setCell ⟨b, 1, none⟩ (.slice ar nr cr) = w5 := ⟨_, rfl⟩
        have hc5 : Chg (fun g => g = b) w4 w5 := hw5 ▸ Chg.setCell (F := fun g => g = b) (p := ⟨b, 1, none⟩) (Chg.refl _ w4) (.inl rfl) (.slice ar nr cr)
        have HQ5 : Hid (RQ w5 b m (.slice ar nr cr) (l.take k ++ l.drop (k + 1))) := hw5 ▸ RQ.set hp4 ho4
        have OV5 := Lib.hid (hv4.chg hc5 (by have := HW.out; omega))
        have OP5 := Lib.hid (op4.chg hc5 (by have := HW.out; rw [HS1.out]; omega))
        have HC5 : Hid (Chg (QF b (.slice (some ⟨b2, off, none⟩) l.length c)) w w5) := hc4.trans hc5 (fun x hx h => .inl h)
        have HB4 : Hid (∀ g, (Value.slice ar nr cr).ownBlock = some g → w2.heap.size ≤ g) := fun g hg => (hb4 g hg).elim (fun h => HB3.out g h) (fun h => Nat.le_trans HS3.out h)
        have HSZ := Lib.hid hsz
        have c4 : w4.cell? ⟨b, 1, none⟩ = some (.slice (some ⟨b2, off, none⟩) l.length c) := hq4.cells.2.1
        have f4 := hq4.cells.2.2
        clear hdr hlk hld hr2 ho4 hg4 hb4 h34 hsz hq4 hv4 op4 hc4 hp4 hc5 hlc
        go_upto_region 8 with (at_builtin; refine app_go rfl (.tmp 35) (.tmp 41) 30 rfl _ _ _ _ rfl rfl HR1.out ?_)
        clear c2
        have c3 := HQ3.out.cells.2.1
        obtain ⟨⟨p0, p1, p2, p3, p4⟩, pf⟩ := OP5.out
        obtain ⟨⟨u0, u1, u2, u3, u4⟩, uf⟩ := OV5.out
        go_upto_region 10 with (at_builtin; refine app_go rfl (.tmp 43) (.tmp 50) 30 rfl _ _ _ _ rfl rfl HR2.out ?_)
        clear hw5 c3 c4 f4
        go_wp2_with fail
        obtain ⟨t1, t2, t3⟩ := take_at hlt HNO.out (by rw [HY.out]; exact HD.out)
        rw [HY.out] at t1
        have hs := (OV5.out.set y.1 y.2.1 y.2.2.1 y.2.2.2.1 y.2.2.2.2).1
        have hcg : Chg (QF b (.slice (some ⟨b2, off, none⟩) l.length c)) w (put5 w5 w.heap.size y.1 y.2.1 y.2.2.1 y.2.2.2.1 y.2.2.2.2) := HC5.out.trans (put5_chg w5 w.heap.size y.1 y.2.1 y.2.2.1 y.2.2.2.1 y.2.2.2.2) (fun x hx h => by omega)
        have hrq : RQ (put5 w5 w.heap.size y.1 y.2.1 y.2.2.1 y.2.2.2.1 y.2.2.2.2) b m (.slice ar nr cr) (takeL l d) := t3 ▸ HQ5.out.chg (put5_chg w5 w.heap.size y.1 y.2.1 y.2.2.1 y.2.2.2.1 y.2.2.2.2) (fun g hg e => by
          rcases hg with h | h
          · have := HW.out; omega
          · have := HB4.out g h; have := HSZ.out; omega)
        unfold put5 at hs hcg hrq
        generalize ((((w5.setCell ⟨w.heap.size, 0, none⟩ (.int .i64 y.1)).setCell ⟨w.heap.size, 1, none⟩ (.int .i64 y.2.1)).setCell ⟨w.heap.size, 2, none⟩ (.int .i64 y.2.2.1)).setCell ⟨w.heap.size, 3, none⟩ (.int .i64 y.2.2.2.1)).setCell ⟨w.heap.size, 4, none⟩ (.string y.2.2.2.2) = W6 at *
        obtain ⟨s0_, s1_, s2_, s3_, s4_⟩ := hs
        exact bodyPost_ret (v := .tuple #[pkV y, .int .i64 0]) (by simp [results, Try.results14, go_sem, s0_, s1_, s2_, s3_, s4_]) rfl ⟨by rw [t1, t2], hcg, _, hrq, fun g hg => .inr (by have := HB4.out g hg; have := HSZ.out; omega)⟩
      · have hq : (y.2.1 == d) = false := by simpa using hd
        have HD := Lib.hid hd
        clear hd
        go_wp2_with fail
        go_roundw
        case rel =>
          refine ⟨k + 1, by omega, by go_num, ?_, by first | rfl | trivial⟩
          intro i hi
          by_cases h : i < k
          · exact HNO.out i h
          · obtain rfl : i = k := by omega
            rw [HY.out]; exact HD.out
        case measure => simp [intOf]; omega
    · obtain rfl : k = l.length := by omega
      obtain ⟨t1, t2, t3⟩ := take_no HNO.out
      have T1 := Lib.hid t1
      have T2 := Lib.hid t2
      have T3 := Lib.hid t3
      clear t1 t2 t3
      go_wp2_with fail
      have hs := (OV.out.set 0 0 0 0 ⟨#[]⟩).1
      have hcg : Chg (QF b (.slice a l.length c)) w (put5 w1 w.heap.size 0 0 0 0 ⟨#[]⟩) := chg0 (bel_put5 HB.out (Nat.le_refl _) 0 0 0 0 ⟨#[]⟩)
      have hrq : RQ (put5 w1 w.heap.size 0 0 0 0 ⟨#[]⟩) b m (.slice a l.length c) l := HQ.out.chg (F := fun k => k = w.heap.size) (put5_chg w1 w.heap.size 0 0 0 0 ⟨#[]⟩) (fun k hk e => by
        rcases hk with h | h
        · have := HW.out; omega
        · have := (HRW.out k h).2; omega)
      unfold put5 at hs hcg hrq
      generalize ((((w1.setCell ⟨w.heap.size, 0, none⟩ (.int .i64 0)).setCell ⟨w.heap.size, 1, none⟩ (.int .i64 0)).setCell ⟨w.heap.size, 2, none⟩ (.int .i64 0)).setCell ⟨w.heap.size, 3, none⟩ (.int .i64 0)).setCell ⟨w.heap.size, 4, none⟩ (.string ⟨#[]⟩) = W5 at *
      obtain ⟨s0_, s1_, s2_, s3_, s4_⟩ := hs
      exact bodyPost_ret (v := .tuple #[pkV zPk, .int .i64 7]) (by simp [results, Try.results14, go_sem, s0_, s1_, s2_, s3_, s4_, zPk]) rfl ⟨by rw [T1.out, T2.out], hcg, _, by rw [T3.out]; exact hrq, fun g hg => .inl hg⟩
end Go.Proofs.Ytgcjmnjepnmaeaa
