/- thalweglaw10.QueueOrder: for any number, packets and node the law answers true; no condition. -/
import Derived.Test.YtgcjmnjepnmaeaaQaw
import Derived.Test.YtgcjmnjepnmaeaaQpg
import Derived.WalkLawsBesides
import Derived.WalkKit
import Derived.ProofKit
import Derived.OpenShut
import Derived.ShutString
import Derived.ChangeOld
import Derived.Below
namespace Go.Proofs.Ytgcjmnjepnmaeaa.queueOrder
open Go.ChangeShapes Go.WideShapes Go.ChangeAt Go.RowKit
open Go.ChangeMaps (open_string shut_string)
set_option linter.unusedVariables false
set_option maxRecDepth 100000

theorem own : ownKnob Try.prog.godebug = none := by kernel_rfl
theorem laidOut : laidOutB Try.prog = true := by kernel_rfl

theorem kapp2_any {ops : Array Oper} {rest : List Oper} {o : Oper} {a : Act} {Q : Exit → Act → World → Prop} {W : World} (hgd : o.guard = none) (s x : Operand) (hty : o.type = 30)
    (ho : o.op = .call { callee := .builtin .append, args := #[s, x], argTypes := #[30, 30] }) (w : World) (y : Pk) (hW : W = w.alloc (.cells #[.int .i64 y.1, .int .i64 y.2.1, .int .i64 y.2.2.1, .int .i64 y.2.2.2.1, .string y.2.2.2.2] 34)) (S : Nat) (v : Value) (xs : List Pk)
    (hs : a.eval s = v) (hx : a.eval x = .slice (some ⟨w.heap.size, 0, none⟩) 1 1) (hown : OwK w S v xs) (hl : xs.length ≤ 3000) (hS : S ≤ w.heap.size)
    (h : ∀ g cap w', OwK w' S (.slice (some ⟨g, 0, none⟩) (xs.length + 1) cap) (xs ++ [y]) → Chg (fun k => v.ownBlock = some k) w w' → (v.ownBlock = some g ∨ w.heap.size ≤ g) → wpList Try.prog ops Q rest (a.put o.dst (.slice (some ⟨g, 0, none⟩) (xs.length + 1) cap)) w') : wpList Try.prog ops Q (o :: rest) a W := by
  subst hW
  obtain ⟨g, cap, w', hr, h2, h3, _, h5⟩ := run_gapp3 (w.alloc (.cells #[.int .i64 y.1, .int .i64 y.2.1, .int .i64 y.2.2.1, .int .i64 y.2.2.2.1, .string y.2.2.2.2] 34)) S v xs (hown.below ((Below.refl _ w).alloc (Nat.le_refl _) _)) w.heap.size y (gc_alloc RK w y _ rfl 34) hl (by simp; omega)
  refine wpList_plain hgd fun K hK => ?_
  unfold Oper.wp
  rw [gexec_append ho hs hx (by rw [hty]; exact hr)]
  refine hK _ _ (h g cap w' h2 (((Chg.refl _ w).alloc _).grown h3 (fun k hk => .inl hk)) (h5.imp (fun h => h) (fun h => ?_)))
  simp at h
  omega
def toL (l : List Pk) (d : Int) : List Pk := l.filter (isTo d)
theorem to_app (l : List Pk) (d : Int) (y : Pk) (h : y.2.1 = d) : toL (l ++ [y]) d = toL l d ++ [y] ∧ clrL (l ++ [y]) d = clrL l d := by
  have hy : isTo d y = true := by simpa [isTo] using h
  unfold toL clrL
  rw [List.filter_append, List.filter_append, List.filter_cons_of_pos hy, List.filter_cons_of_neg (by simp [hy])]
  exact ⟨rfl, List.append_nil _⟩
theorem no_app (l : List Pk) (d : Int) (y : Pk) (h : ¬ y.2.1 = d) : toL (l ++ [y]) d = toL l d ∧ clrL (l ++ [y]) d = clrL l d ++ [y] := by
  have hy : isTo d y = false := by simpa [isTo] using h
  unfold toL clrL
  rw [List.filter_append, List.filter_append, List.filter_cons_of_neg (by simp [hy]), List.filter_cons_of_pos (by simp [hy])]
  exact ⟨List.append_nil _, rfl⟩
theorem to_len (l : List Pk) (d : Int) : (toL l d).length = cntN l d := by
  unfold toL cntN
  rw [List.countP_eq_length_filter]
theorem clr_len : ∀ (l : List Pk) (d : Int), (clrL l d).length + cntN l d = l.length
  | [], _ => rfl
  | y :: l, d => by
    have ih := clr_len l d
    unfold clrL cntN at *
    cases h : isTo d y with
    | true => rw [List.filter_cons_of_neg (by simp [h]), List.countP_cons_of_pos h, List.length_cons]; omega
    | false => rw [List.filter_cons_of_pos (by simp [h]), List.countP_cons_of_neg (by simp [h]), List.length_cons, List.length_cons]; omega
/-- The first one to d is taken; those to others stay. -/
theorem take_to : ∀ {l : List Pk} {d : Int} {y : Pk} {r : List Pk}, toL l d = y :: r → takeV l d = y ∧ takeE l d = 0 ∧ toL (takeL l d) d = r ∧ clrL (takeL l d) d = clrL l d
  | [], d, y, r, h => by cases h
  | z :: l, d, y, r, h => by
    cases hz : isTo d z with
    | true =>
      unfold toL at h
      rw [List.filter_cons_of_pos hz] at h
      simp only [List.cons.injEq] at h
      obtain ⟨rfl, h2⟩ := h
      refine ⟨by simp [takeV, hz], by simp [takeE, hz], ?_, ?_⟩
      · rw [← h2]; simp [takeL, hz, toL]
      · simp [takeL, hz, clrL]
    | false =>
      have h' : toL l d = y :: r := by
        unfold toL at *
        rw [List.filter_cons_of_neg (by simp [hz])] at h
        exact h
      obtain ⟨h1, h2, h3, h4⟩ := take_to h'
      refine ⟨?_, ?_, ?_, ?_⟩
      · rw [← h1]; simp [takeV, hz]
      · rw [← h2]; unfold takeE; rw [List.any_cons, hz, Bool.false_or]
      · rw [← h3]; simp [takeL, hz, toL]
      · unfold clrL takeL at *
        rw [List.eraseP_cons_of_neg (by simp [hz]), List.filter_cons_of_pos (by simp [hz]), List.filter_cons_of_pos (by simp [hz]), h4]
theorem take_none {l : List Pk} {d : Int} (h : toL l d = []) : takeV l d = zPk ∧ takeE l d = 7 ∧ takeL l d = l ∧ clrL l d = l := by
  have h0 : ∀ y ∈ l, isTo d y = false := fun y hy => by
    cases hd : isTo d y with
    | false => rfl
    | true =>
      have h2 := List.mem_filter.2 ⟨hy, hd⟩
      unfold toL at h
      rw [h] at h2
      cases h2
  obtain ⟨h1, h2, h3⟩ := take_no (l := l) (d := d) (fun i hi => by
    have := h0 _ (List.getElem_mem hi)
    simpa [isTo, List.getD, hi] using this)
  exact ⟨h1, h2, h3, List.filter_eq_self.2 (fun y hy => by simp [h0 y hy])⟩
theorem put_cases (m : Int) (l : List Pk) (y : Pk) : (putE m l y = 0 ∧ putL m l y = l ++ [y]) ∨ (putE m l y ≠ 0 ∧ putL m l y = l) := by
  unfold putE putL
  by_cases h : y.Ok
  · by_cases h2 : m ≤ (l.length : Int)
    · right; rw [if_neg (fun h9 => h9 h), if_pos h2, if_neg (fun h9 => absurd h9.2 (by omega))]; exact ⟨by decide, rfl⟩
    · left; rw [if_neg (fun h9 => h9 h), if_neg h2, if_pos ⟨h, by omega⟩]; exact ⟨rfl, rfl⟩
  · right; rw [if_pos h, if_neg (fun h9 => h h9.1)]; exact ⟨by decide, rfl⟩
theorem drop_at {l : List Pk} {k : Nat} (h : k < l.length) : l.drop k = l.getD k zPk :: l.drop (k + 1) := by
  rw [List.drop_eq_getElem_cons h]
  simp [List.getD, h]
/-- The blocks of two rows. -/
def KK (v u : Value) (k : Nat) : Prop := v.ownBlock = some k ∨ u.ownBlock = some k
/-- A queue that holds L, and two rows beside it: those to d, and the others. -/
structure St (QSt : World → (Nat → Prop) → Nat → Int → List Pk → Prop) (w0 w : World) (b : Nat) (m d : Int) (v u : Value) (L : List Pk) : Prop where
  q : QS QSt w0 w (KK v u) b m L
  ov : OwK w w0.heap.size v (toL L d)
  ou : OwK w w0.heap.size u (clrL L d)
  ap : ∀ g, v.ownBlock = some g → u.ownBlock ≠ some g
theorem kk_lt {w0 w : World} {v u : Value} {xs ys : List Pk} (hv : OwK w w0.heap.size v xs) (hu : OwK w w0.heap.size u ys) {k : Nat} (h : KK v u k) : w0.heap.size ≤ k ∧ k < w.heap.size := h.elim (hv.lt k) (hu.lt k)
theorem st_mine {QSt : World → (Nat → Prop) → Nat → Int → List Pk → Prop} (hc : Qc QSt) {w0 w w' : World} {b : Nat} {m d : Int} {v v' u : Value} {L : List Pk} {y : Pk} (hq : QS QSt w0 w (KK v u) b m (L ++ [y])) (hv : OwK w w0.heap.size v (toL L d)) (hu : OwK w w0.heap.size u (clrL L d)) (hap : ∀ g, v.ownBlock = some g → u.ownBlock ≠ some g) (hto : y.2.1 = d)
    (ho : OwK w' w0.heap.size v' (toL L d ++ [y])) (hch : Chg (fun k => v.ownBlock = some k) w w') (hg : ∀ k, v'.ownBlock = some k → v.ownBlock = some k ∨ w.heap.size ≤ k) : St QSt w0 w' b m d v' u (L ++ [y]) := by
  obtain ⟨e1, e2⟩ := to_app L d y hto
  have hu' := hu.chg hch (fun g hgu hgv => hap g hgv hgu)
  refine ⟨hq.keep hc hch (fun k hk => .inl hk) (fun k hk => (kk_lt hv hu hk).1) (fun k hk => ?_) (fun k hk => (kk_lt ho hu' hk).2), by rw [e1]; exact ho, by rw [e2]; exact hu', fun g h1 h2 => ?_⟩
  · rcases hk with h | h
    · exact (hg k h).imp (fun h => .inl h) (fun h => h)
    · exact .inl (.inr h)
  · rcases hg g h1 with h | h
    · exact hap g h h2
    · have := (hu.lt g h2).2
      omega
theorem st_rest {QSt : World → (Nat → Prop) → Nat → Int → List Pk → Prop} (hc : Qc QSt) {w0 w w' : World} {b : Nat} {m d : Int} {v u u' : Value} {L : List Pk} {y : Pk} (hq : QS QSt w0 w (KK v u) b m (L ++ [y])) (hv : OwK w w0.heap.size v (toL L d)) (hu : OwK w w0.heap.size u (clrL L d)) (hap : ∀ g, v.ownBlock = some g → u.ownBlock ≠ some g) (hto : ¬ y.2.1 = d)
    (ho : OwK w' w0.heap.size u' (clrL L d ++ [y])) (hch : Chg (fun k => u.ownBlock = some k) w w') (hg : ∀ k, u'.ownBlock = some k → u.ownBlock = some k ∨ w.heap.size ≤ k) : St QSt w0 w' b m d v u' (L ++ [y]) := by
  obtain ⟨e1, e2⟩ := no_app L d y hto
  have hv' := hv.chg hch (fun g hgv hgu => hap g hgv hgu)
  refine ⟨hq.keep hc hch (fun k hk => .inr hk) (fun k hk => (kk_lt hv hu hk).1) (fun k hk => ?_) (fun k hk => (kk_lt hv' ho hk).2), by rw [e1]; exact hv', by rw [e2]; exact ho, fun g h1 h2 => ?_⟩
  · rcases hk with h | h
    · exact .inl (.inl h)
    · exact (hg k h).imp (fun h => .inr h) (fun h => h)
  · rcases hg g h2 with h | h
    · exact hap g h1 h
    · have := (hv.lt g h1).2
      omega
set_option maxHeartbeats 32000000 in
theorem walk {QSt : World → (Nat → Prop) → Nat → Int → List Pk → Prop} (hc : Qc QSt) (a0 : Int) (w0 : I64 a0) (a1 : Option Addr) (cap1 : Nat) (z1 : List Pk) (a2 : Int) (w2 : I64 a2) (w : World) (w1 : Ks w (.slice a1 z1.length cap1) z1):
    Calls Try.prog 4 #[.int .i64 a0, .slice a1 z1.length cap1, .int .i64 a2] w fun e w' => e = .returned (.bool true) ∧ Below w.heap.size w w' := by
  by_cases hm : 1 ≤ a0 ∧ a0 ≤ 64
  · have C1 := Lib.hid (hc.news hm w)
    have HM := Lib.hid hm
    have HK := Lib.hid w1
    clear hm w1
    go_enter Try.func4, Try.ntmps4
    go_wp2_with fail
    refine C1.out.mono ?_
    rintro e W1 ⟨b, rfl, hq⟩
    have HQ := Lib.hid hq
    clear hq C1
    by_cases hl : (100 : Int) < (z1.length : Int)
    · have hd : decide ((100 : Int) < (z1.length : Int)) = true := decide_eq_true hl
      have C9 := Lib.hid (awake10 hc W1)
      go_wp2_with fail
      refine C9.out.mono ?_
      rintro e W9 ⟨rfl, hb⟩
      have HB9 := Lib.hid (HQ.out.bel.trans (hb.mono HQ.out.bel.size))
      clear hb C9
      go_wp2_with fail
      go_ret
      exact ⟨rfl, HB9.out⟩
    · have hd : decide ((100 : Int) < (z1.length : Int)) = false := decide_eq_false hl
      have HL : Hid (z1.length ≤ 100) := by show _ ≤ _; omega
      have hl2 : z1.length ≤ 100 := HL.out
      clear hl
      go_wp2_with fail
      clear hd
      go_loopw [9, 10, 11] (fun mv rv i wr => ∃ (k : Nat) (L : List Pk) (am ar : Option Addr) (nm nr cm cr : Nat), k ≤ z1.length ∧ i = .int .i64 k ∧ mv = .slice am nm cm ∧ rv = .slice ar nr cr ∧ St QSt w wr b a0 a2 (.slice am nm cm) (.slice ar nr cr) L) (fun _ _ i _ => z1.length - (intOf i).toNat)
      case atStart => exact ⟨0, [], none, none, 0, 0, 0, 0, Nat.zero_le _, rfl, rfl, rfl, ⟨HQ.out.less (fun k hk => by rcases hk with h | h <;> cases h), OwK_nil _ _, OwK_nil _ _, fun g h => by cases h⟩⟩
      case round =>
        obtain ⟨k, L, am, ar, nm, nr, cm, cr, hk, rfl, rfl, rfl, hst⟩ := hrel
        have HR := Lib.hid hst
        clear hst
        by_cases hlt : k < z1.length
        · obtain ⟨b2, off, rfl, hB, p0, p1, p2, p3, p4⟩ := (HK.out.below (HR.out.q.bel.mono (Nat.le_refl _))).at hlt
          obtain ⟨y, hy⟩ : ∃ y, z1.getD k zPk = y := ⟨_, rfl⟩
          rw [hy] at p0 p1 p2 p3 p4
          have HY := Lib.hid hy
          clear hy
          by_cases hx : (600 : Int) < (y.2.2.2.2.size : Int)
          · have hd2 : decide ((600 : Int) < (y.2.2.2.2.size : Int)) = true := decide_eq_true hx
            clear hx
            go_wp2_with fail
            go_ret
            exact ⟨rfl, HR.out.q.bel⟩
          · have hd2 : decide ((600 : Int) < (y.2.2.2.2.size : Int)) = false := decide_eq_false hx
            clear hx
            have C1 := Lib.hid (hc.puts HR.out.q y)
            go_wp2_with fail
            refine C1.out.mono ?_
            rintro e W3 ⟨rfl, hq, hch⟩
            have hv3 := HR.out.ov.chg hch (fun g hg => off_no (.inl hg))
            have hu3 := HR.out.ou.chg hch (fun g hg => off_no (.inr hg))
            have HAP := Lib.hid HR.out.ap
            have hb3 : C5 W3 b2 (off + k * 5) y := by
              obtain ⟨b9, off9, h9, _, h5⟩ := (HK.out.below (hq.bel.mono (Nat.le_refl _))).at hlt
              simp only [Option.some.injEq, Addr.mk.injEq, and_true] at h9
              obtain ⟨rfl, rfl⟩ := h9
              rw [HY.out] at h5
              exact h5
            have hl9' : L.length ≤ 64 := by have := HR.out.q.len hc; omega
            have HLL := Lib.hid hl9'
            clear hl9'
            rcases put_cases a0 L y with ⟨he, hl9⟩ | ⟨he, hl9⟩
            · rw [he]
              rw [hl9] at hq
              obtain rfl : nm = (toL L a2).length := by obtain ⟨a9, c9, h9⟩ := hv3.form; cases h9; rfl
              obtain rfl : nr = (clrL L a2).length := by obtain ⟨a9, c9, h9⟩ := hu3.form; cases h9; rfl
              have HLV : Hid ((toL L a2).length ≤ 3000) := by show _ ≤ _; have := to_len L a2; have := cntN_le L a2; have := HLL.out; omega
              have HLU : Hid ((clrL L a2).length ≤ 3000) := by show _ ≤ _; have := clrL_le L a2; have := HLL.out; omega
              have HQ3 := Lib.hid hq
              have HV3 := Lib.hid hv3
              have HU3 := Lib.hid hu3
              have HSW : Hid (w.heap.size ≤ W3.heap.size) := hq.bel.size
              clear hq hv3 hu3 hch C1 he hl9 p0 p1 p2 p3 p4
              obtain ⟨p0, p1, p2, p3, p4⟩ := hb3
              by_cases hto : y.2.1 = a2
              · have hq1 : (y.2.1 == a2) = true := by simpa using hto
                have HTO := Lib.hid hto
                clear hto
                go_wp2_with (at_builtin; refine kapp2_any rfl (.tmp 61) (.tmp 66) rfl rfl W3 y rfl w.heap.size (.slice am (toL L a2).length cm) (toL L a2) rfl rfl HV3.out HLV.out HSW.out ?_; intro g cap w' ho hch hg9; have HST := Lib.hid (st_mine hc HQ3.out HV3.out HU3.out HAP.out HTO.out ho hch (fun k hk => by cases hk; exact hg9)); clear ho hch hg9)
                go_roundw
                case rel => exact ⟨k + 1, _, _, _, _, _, _, _, by omega, by go_num, rfl, rfl, HST.out⟩
                case measure => simp [intOf]; omega
              · have hq1 : (y.2.1 == a2) = false := by simpa using hto
                have HTO := Lib.hid hto
                clear hto
                go_wp2_with (at_builtin; refine kapp2_any rfl (.tmp 68) (.tmp 73) rfl rfl W3 y rfl w.heap.size (.slice ar (clrL L a2).length cr) (clrL L a2) rfl rfl HU3.out HLU.out HSW.out ?_; intro g cap w' ho hch hg9; have HST := Lib.hid (st_rest hc HQ3.out HV3.out HU3.out HAP.out HTO.out ho hch (fun k hk => by cases hk; exact hg9)); clear ho hch hg9)
                go_roundw
                case rel => exact ⟨k + 1, _, _, _, _, _, _, _, by omega, by go_num, rfl, rfl, HST.out⟩
                case measure => simp [intOf]; omega
            · have hne : ((putE a0 L y) != 0) = true := by simpa using he
              rw [hl9] at hq
              have HR3 : Hid (St QSt w W3 b a0 a2 (.slice am nm cm) (.slice ar nr cr) L) := ⟨hq, hv3, hu3, HAP.out⟩
              clear hq hv3 hu3 hch C1 he hl9 p0 p1 p2 p3 p4 hb3
              go_wp2_with fail
              go_roundw
              case rel => exact ⟨k + 1, L, _, _, _, _, _, _, by omega, by go_num, rfl, rfl, HR3.out⟩
              case measure => simp [intOf]; omega
        · obtain rfl : k = z1.length := by omega
          obtain rfl : nm = (toL L a2).length := by obtain ⟨a9, c9, h9⟩ := HR.out.ov.form; cases h9; rfl
          obtain rfl : nr = (clrL L a2).length := by obtain ⟨a9, c9, h9⟩ := HR.out.ou.form; cases h9; rfl
          have hl9 : L.length ≤ 64 := by have := HR.out.q.len hc; omega
          have HLL := Lib.hid hl9
          have HTL := Lib.hid (to_len L a2)
          have HCL := Lib.hid (clr_len L a2)
          clear hl9 hk hlt hl2 HL HQ HK
          have C1 := Lib.hid (hc.counts HR.out.q a2)
          go_wp2_with fail
          refine C1.out.mono ?_
          rintro e W3 ⟨rfl, hq, hch⟩
          have HV3 := Lib.hid (HR.out.ov.chg hch (fun g hg => off_no (.inl hg)))
          have HU3 := Lib.hid (HR.out.ou.chg hch (fun g hg => off_no (.inr hg)))
          have HQ3 := Lib.hid hq
          have HBW := Lib.hid HR.out.q.bel
          rw [← HTL.out]
          clear hq hch C1 HR
          obtain ⟨M, hM⟩ : ∃ M, toL L a2 = M := ⟨_, rfl⟩
          obtain ⟨R, hR⟩ : ∃ R, clrL L a2 = R := ⟨_, rfl⟩
          rw [hM] at HV3 HTL HQ3 ⊢
          rw [hR] at HU3 HCL HQ3 ⊢
          have C1 := Lib.hid (hc.alls HQ3.out)
          have HM2 := Lib.hid hM
          have HR2 := Lib.hid hR
          clear hM hR
          go_wp2_with fail
          refine C1.out.mono ?_
          rintro e W4 ⟨⟨aa, ca, rfl, ho, hq⟩, hch⟩
          have HV4 := Lib.hid (HV3.out.chg hch (fun g hg => off_no (.inl hg)))
          have HU4 := Lib.hid (HU3.out.chg hch (fun g hg => off_no (.inr hg)))
          have HQ4 := Lib.hid (hq.less (K' := KK (.slice am M.length cm) (.slice ar R.length cr)) (fun k hk => .inl hk))
          clear ho hq hch C1 HV3 HU3 HQ3
          have hsum : (L.length : Int) = (M.length : Int) + (R.length : Int) := by have := HTL.out; have := HCL.out; omega
          have hm64 : M.length ≤ 64 := by have := HTL.out; have := HCL.out; have := HLL.out; omega
          have hr64 : R.length ≤ 64 := by have := HCL.out; have := HLL.out; omega
          have HR64 := Lib.hid hr64
          have HM64 := Lib.hid hm64
          go_wp2_with fail
          clear hsum hr64
          go_loopw [12] (fun i wr => ∃ (k : Nat) (Lk : List Pk), k ≤ M.length ∧ i = .int .i64 k ∧ toL Lk a2 = M.drop k ∧ clrL Lk a2 = R ∧ QS QSt w wr (KK (.slice am M.length cm) (.slice ar R.length cr)) b a0 Lk ∧ OwK wr w.heap.size (.slice am M.length cm) M ∧ OwK wr w.heap.size (.slice ar R.length cr) R) (fun i _ => M.length - (intOf i).toNat)
          case atStart => exact ⟨0, L, Nat.zero_le _, rfl, HM2.out, HR2.out, HQ4.out, HV4.out, HU4.out⟩
          case round =>
            obtain ⟨k, Lk, hk, rfl, ht, hcl, hq, hv, hu⟩ := hrel
            have HT := Lib.hid ht
            have HCK := Lib.hid hcl
            have HQ5 := Lib.hid hq
            have HV5 := Lib.hid hv
            have HU5 := Lib.hid hu
            clear ht hcl hq hv hu
            have C5 := Lib.hid (hc.takes HQ5.out a2)
            by_cases hlt : k < M.length
            · obtain ⟨y, hy⟩ : ∃ y, M.getD k zPk = y := ⟨_, rfl⟩
              have HY := Lib.hid hy
              have HTT : Hid (takeV Lk a2 = y ∧ takeE Lk a2 = 0 ∧ toL (takeL Lk a2) a2 = M.drop (k + 1) ∧ clrL (takeL Lk a2) a2 = R) := by
                have h := take_to (l := Lk) (d := a2) (y := y) (r := M.drop (k + 1)) (by rw [HT.out, drop_at hlt, hy])
                exact ⟨h.1, h.2.1, h.2.2.1, h.2.2.2.trans HCK.out⟩
              clear hy
              go_wp2_with fail
              refine C5.out.mono ?_
              rintro e W5 ⟨rfl, hq, hch⟩
              rw [HTT.out.1, HTT.out.2.1]
              have hv5 := HV5.out.chg hch (fun g hg => off_no (.inl hg))
              have hu5 := HU5.out.chg hch (fun g hg => off_no (.inr hg))
              obtain ⟨W6, hW6⟩ : ∃ W6, W5.alloc (.cells #[.int .i64 y.1, .int .i64 y.2.1, .int .i64 y.2.2.1, .int .i64 y.2.2.2.1, .string y.2.2.2.2] 34) = W6 := ⟨_, rfl⟩
              have hb6 : Below W5.heap.size W5 W6 := hW6 ▸ (Below.refl _ W5).alloc (Nat.le_refl _) _
              have HV6 := Lib.hid (hv5.below hb6)
              have HU6 := Lib.hid (hu5.below hb6)
              have HX6 : Hid (OwnP W6 W5.heap.size y.1 y.2.1 y.2.2.1 y.2.2.2.1 y.2.2.2.2) := hW6 ▸ ownp_alloc W5 _ _ _ _ _ 34 W5.heap.size rfl
              have HQ6 := Lib.hid (hq.under hc hb6)
              clear hq hch hv5 hu5 hb6 C5
              obtain ⟨⟨u0, u1, u2, u3, u4⟩, uf⟩ := HX6.out
              obtain ⟨b2, off, rfl, hB, p0, p1, p2, p3, p4⟩ := HV6.out.ks.at hlt
              rw [HY.out] at p0 p1 p2 p3 p4
              obtain ⟨y1, y2, y3, y4, y5⟩ := y
              simp only at u0 u1 u2 u3 u4 p0 p1 p2 p3 p4
              have G1 := guardPK
              have G2 := neqPK
              have G3 : eqK y1 y2 y3 y4 y5 y1 y2 y3 y4 y5 = true := eqK_iff.2 rfl
              go_wp2_with fail
              go_quiet (fail)
              go_wp2_with fail
              go_roundw
              case rel => exact ⟨k + 1, _, by omega, by go_num, HTT.out.2.2.1, HTT.out.2.2.2, HQ6.out.dn hc _, HV6.out.dn _, HU6.out.dn _⟩
              case measure => simp [intOf]; omega
            · obtain rfl : k = M.length := by omega
              have HTT : Hid (takeV Lk a2 = zPk ∧ takeE Lk a2 = 7 ∧ takeL Lk a2 = R) := by
                have h0 : toL Lk a2 = [] := by rw [HT.out, List.drop_length]
                have h := take_none h0
                exact ⟨h.1, h.2.1, h.2.2.1.trans (h.2.2.2.symm.trans HCK.out)⟩
              go_wp2_with fail
              refine C5.out.mono ?_
              rintro e W5 ⟨rfl, hq, hch⟩
              rw [HTT.out.1, HTT.out.2.1]
              rw [HTT.out.2.2] at hq
              have hu5 := HU5.out.chg hch (fun g hg => off_no (.inr hg))
              obtain ⟨W6, hW6⟩ : ∃ W6, W5.alloc (.cells #[.int .i64 zPk.1, .int .i64 zPk.2.1, .int .i64 zPk.2.2.1, .int .i64 zPk.2.2.2.1, .string zPk.2.2.2.2] 34) = W6 := ⟨_, rfl⟩
              have hb6 : Below W5.heap.size W5 W6 := hW6 ▸ (Below.refl _ W5).alloc (Nat.le_refl _) _
              have HU6 := Lib.hid (hu5.below hb6)
              have HQ6 := Lib.hid (hq.under hc hb6)
              clear hq hch hu5 hb6 C5
              have C6 := Lib.hid (awake10 hc W6)
              go_wp2_with fail
              refine C6.out.mono ?_
              rintro e W7 ⟨rfl, hb⟩
              have HU7 := Lib.hid (HU6.out.below hb)
              have HQ7 := Lib.hid (HQ6.out.under hc hb)
              clear hb C6 hW6
              have C7 := Lib.hid (hc.alls HQ7.out)
              go_wp2_with fail
              refine C7.out.mono ?_
              rintro e W8 ⟨⟨ab, cb, rfl, ho, hq⟩, hch⟩
              have HU8 := Lib.hid (HU7.out.chg hch (fun g hg => off_no (.inr hg)))
              have HO8 := Lib.hid ho
              have HB8 := Lib.hid hq.bel
              clear ho hq hch C7
              have C8 := Lib.hid (rsameK_any _ _ R R W8 HO8.out.ks HU8.out.ks (Nat.le_trans HR64.out (by decide)))
              go_wp2_with fail
              refine C8.out.mono ?_
              rintro e W9 ⟨⟨q, rfl, hq⟩, hb⟩
              obtain rfl : q = true := hq.2 (by first | rfl | trivial)
              have HB9 := Lib.hid (HB8.out.trans (hb.mono HB8.out.size))
              clear hq hb C8
              go_wp2_with fail
              go_ret
              exact ⟨rfl, HB9.out⟩
  · have C1 := Lib.hid (hc.new_no hm w)
    go_enter Try.func4, Try.ntmps4
    go_wp2_with fail
    refine C1.out.mono ?_
    rintro e W1 ⟨rfl, hb⟩
    have HB := Lib.hid hb
    clear hb C1
    have C9 := Lib.hid (awake10 hc W1)
    go_wp2_with fail
    refine C9.out.mono ?_
    rintro e W9 ⟨rfl, hb⟩
    have HB9 := Lib.hid (HB.out.trans (hb.mono HB.out.size))
    clear hb C9
    go_wp2_with fail
    go_ret
    exact ⟨rfl, HB9.out⟩

set_option maxRecDepth 100000 in
theorem lifted (os : _root_.Go.Os) (started : os.Started) (H : Type) (enc : TypeId × Value → H) :
    ReturnsInHanded {} Try.checked os 4 .any (Rows.queueOrderSpec.pre6 enc Try.prog Try.f4 Rows.queueOrderRow.domain false) (Rows.queueOrderSpec.post enc Try.prog Try.f4 false true false false) := by
  refine returnsInHanded_of_change (C := Try.checked) own started (by kernel_rfl) Try.func4
    (ChangeSpec.witness6 (enc := enc) (C := Try.checked) false ⟨#[], #[.int .i64 0, .slice none 0 0, .int .i64 0], []⟩ 16 (by kernel_rfl) (by kernel_rfl) (by kernel_rfl) (by kernel_rfl)) ?_
  intro W base args ds gs before hval0 hW hcnd _
  have hval : ∀ (j : Nat) t v, Try.f4.params[j]? = some t → args[j]? = some v → Value.okWide Try.prog W .any base t v := hval0
  have hW' := hW
  obtain ⟨p, q, hA0, hV, rfl, hfz, hnd⟩ := hW
  have hA : DataW.TrodAll enc Try.prog W 0 (fun _ => true) true Try.f4.params.toList args.toList ds p := hA0
  rw [Try.params4] at hA hval
  obtain ⟨v0, vs0, e0, ds0, p0, q0, hargs, rfl, rfl, h0, x0⟩ := trodAll_cons hA
  obtain ⟨v1, vs1, e1, ds1, p1, q1, rfl, rfl, rfl, h1, x1⟩ := trodAll_cons x0
  obtain ⟨v2, vs2, e2, ds2, p2, q2, rfl, rfl, rfl, h2, x2⟩ := trodAll_cons x1
  obtain ⟨rfl, rfl, rfl⟩ := trodAll_nil x2
  obtain rfl : args = #[v0, v1, v2] := by cases args; simp_all
  obtain ⟨rfl, rfl⟩ := trodVars_none hV
  have k0 := h0
  have lt0 : ∀ x ∈ p0, x.block < W.heap.size := by obtain ⟨m, hm⟩ := k0; exact DataW.trod_lt m _ _ _ hm
  obtain ⟨a0, rfl, _, _, w0⟩ := open_int Try.underlying3 (hval 0 3 v0 rfl rfl) h0
  have k1 := h1
  have lt1 : ∀ x ∈ p1, x.block < W.heap.size := by obtain ⟨m, hm⟩ := k1; exact DataW.trod_lt m _ _ _ hm
  have k2 := h2
  have lt2 : ∀ x ∈ p2, x.block < W.heap.size := by obtain ⟨m, hm⟩ := k2; exact DataW.trod_lt m _ _ _ hm
  obtain ⟨a2, rfl, _, _, w2⟩ := open_int Try.underlying3 (hval 2 3 v2 rfl rfl) h2
  obtain ⟨a1, len1, cap1, rfl⟩ := okWide_slice underKS (hval 1 30 v1 rfl rfl)
  obtain ⟨z1, hz1, w1⟩ := ks_form h1
  subst hz1
  clear hA0 hval0
  refine (walk qc a0 (i64_wf w0) a1 cap1 z1 a2 (i64_wf w2) W w1).mono fun e W' ⟨he, bel⟩ => ?_
  subst he
  exact ⟨_, rfl, _, _, _, [], _, [], hW', trodAll_mk1 (shut_bool Try.underlying4 _), (trodAll_cons_mk (Below.trod laidOut (by kernel_rfl) (of_decide_eq_true (by kernel_rfl)) k0 bel lt0) (trodAll_cons_mk (Below.trod laidOut (by kernel_rfl) (of_decide_eq_true (by kernel_rfl)) k1 bel lt1) (trodAll_cons_mk (Below.trod laidOut (by kernel_rfl) (of_decide_eq_true (by kernel_rfl)) k2 bel lt2) trodAll_mk0))), rfl, bel.frame _, fun h => by cases h⟩

theorem over : Rows.queueOrderRow.holds Try.pinned (OpenSpec.ofChange Rows.queueOrderSpec) :=
  OpenClaim.holds_of_wide 4 Try.f4 rfl rfl rfl rfl rfl rfl rfl ⟨rfl, rfl, rfl, rfl, rfl⟩ rfl rfl rfl rfl rfl (by kernel_rfl) Try.func4 (by kernel_rfl)
    (of_decide_eq_true (by kernel_rfl)) (by unfold Func.isWrapper; first | (rw [if_pos (by decide +kernel)]; kernel_rfl) | (rw [if_neg (by decide +kernel)]; exact ⟨rfl, rfl⟩))
    (fun os started H enc _ => lifted os started H enc)

theorem proved : Rows.QueueOrderSaid := over
#print axioms proved
end Go.Proofs.Ytgcjmnjepnmaeaa.queueOrder
