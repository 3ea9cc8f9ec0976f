/- Objects as batches: the reference's Pack. No conditions but on lengths. -/
import Derived.Test.YticjeknadddhoaaOpk
namespace Go.Proofs.Yticjeknadddhoaa
set_option maxRecDepth 100000
open Go.RowKit Go.Sort

def lft (n : Int) : Int := n % 65536
def nxt (n : Int) : Int := (n % 65536 + 1) % 65536
theorem left_any (n : Int) (w : World) : Calls Try.prog 58 #[.int .i64 n] w fun e w' => e = .returned (.int .i64 (lft n)) ∧ w = w' := by
  have h1 : n.tmod 65536 = n - 65536 * n.tdiv 65536 := Int.tmod_def n 65536
  have h2 : n.tmod 65536 < 65536 := Int.tmod_lt_of_pos n (by decide)
  have h3 : (-n).tmod 65536 < 65536 := Int.tmod_lt_of_pos (-n) (by decide)
  rw [Int.neg_tmod] at h3
  have h4 : 0 ≤ n → 0 ≤ n.tmod 65536 := fun h => Int.tmod_nonneg _ h
  have h5 : n ≤ 0 → n.tmod 65536 ≤ 0 := fun h => by
    have := Int.tmod_nonneg (a := -n) 65536 (by omega)
    rw [Int.neg_tmod] at this
    omega
  have HL : Hid (lft n = if n.tmod 65536 < 0 then n.tmod 65536 + 65536 else n.tmod 65536) := by
    unfold lft Hid
    generalize n.tmod 65536 = T at *
    generalize n.tdiv 65536 = D at *
    split <;> omega
  obtain ⟨T, hT0⟩ : ∃ T, n.tmod 65536 = T := ⟨_, rfl⟩
  rw [hT0] at HL h2 h3
  clear h1 h4 h5
  by_cases hT : T < 0
  · have hw : wrap64 (T + 65536) = T + 65536 := by unfold wrap64; omega
    go_enter Try.func58, Try.ntmps58
    go_wp2
    go_ret
    exact ⟨by rw [HL.out, if_pos hT]; rfl, rfl⟩
  · go_enter Try.func58, Try.ntmps58
    go_wp2
    go_ret
    exact ⟨by rw [HL.out, if_neg (by omega)]; rfl, rfl⟩
theorem next_any (n : Int) (w : World) : Calls Try.prog 34 #[.int .i64 n] w fun e w' => e = .returned (.int .i64 (nxt n)) ∧ w = w' := by
  have hb : 0 ≤ lft n ∧ lft n < 65536 := by unfold lft; omega
  have hn : nxt n = (lft n + 1) % 65536 := rfl
  rw [hn]
  have cL := left_any n w
  generalize lft n = m at *
  go_enter Try.func34, Try.ntmps34
  go_wp2_with (go_at_call 58; refine cL.mono ?_; rintro e w1 ⟨rfl, hw⟩; subst hw)
  go_ret
  refine ⟨?_, rfl⟩
  rfl
theorem Os.cap {w : World} {a : Option Addr} {c : Nat} {ys : List Ob} (h : Os w (.slice a ys.length c) ys) : ys.length ≤ c := by
  rcases h with ⟨a', cap, hv, _, rfl⟩ | ⟨b, off, cap, hv, h2, _, _⟩
  · simp
  · simp only [Value.slice.injEq] at hv
    rw [hv.2.2]; exact h2
theorem own_mono {w : World} {base B size n : Nat} {e : TypeId} {v : Value} {xs : List Value} (h : w.ownsRow base e size v n xs) (hB : B ≤ base) : w.ownsRow B e size v n xs := by
  rcases h.2 with h2 | ⟨g, cap, cur, h2, h3, h4⟩
  · exact ⟨h.1, .inl h2⟩
  · exact ⟨h.1, .inr ⟨g, cap, cur, h2, Nat.le_trans hB h3, h4⟩⟩
theorem own_form {w : World} {base size n : Nat} {e : TypeId} {v : Value} {xs : List Value} (h : w.ownsRow base e size v n xs) : ∃ a c, v = .slice a n c := by
  rcases h.2 with ⟨rfl, rfl⟩ | ⟨g, cap, cur, rfl, _⟩
  · exact ⟨none, 0, rfl⟩
  · exact ⟨_, _, rfl⟩
theorem own_one {w : World} {base size n : Nat} {e : TypeId} {v : Value} {xs : List Value} (h : w.ownsRow base e size v n xs) : v.oneCell' = true := by
  rcases h.2 with ⟨rfl, _⟩ | ⟨g, cap, cur, rfl, _⟩ <;> rfl
/-- One more object fits. -/
def Fit1 (most : Int) (ys : List Ob) (A t : Nat) : Prop := t < ys.length ∧ t - A < 32 ∧ 3 + (osz ((ys.drop A).take (t + 1 - A)) : Int) ≤ most
instance (most : Int) (ys : List Ob) (A t : Nat) : Decidable (Fit1 most ys A t) := by unfold Fit1; infer_instance
def cutF (most : Int) (ys : List Ob) (A : Nat) : Nat → Nat → Nat
  | 0, t => t
  | f + 1, t => if Fit1 most ys A t then cutF most ys A f (t + 1) else t
def cutTo (most : Int) (ys : List Ob) (A : Nat) : Nat := cutF most ys A ys.length (A + 1)
theorem cutF_eq {most : Int} {ys : List Ob} {A T : Nat} (hT : ¬ Fit1 most ys A T) : ∀ (f t : Nat), t ≤ T → T ≤ t + f → (∀ s, t ≤ s → s < T → Fit1 most ys A s) → cutF most ys A f t = T
  | 0, t, h1, h2, _ => by rw [cutF]; omega
  | f + 1, t, h1, h2, h3 => by
    rw [cutF]
    by_cases h : t = T
    · subst h; rw [if_neg hT]
    · rw [if_pos (h3 t (Nat.le_refl _) (by omega))]
      exact cutF_eq hT f (t + 1) (by omega) (by omega) fun s hs => h3 s (by omega)
def packF (most : Int) (ys : List Ob) : Nat → Nat → Int → List (Int × List Ob)
  | 0, _, _ => []
  | f + 1, A, n => if A < ys.length then (n, (ys.drop A).take (cutTo most ys A - A)) :: packF most ys f (cutTo most ys A) (nxt n) else []
def packL (most : Int) (ys : List Ob) (first : Int) : List (Int × List Ob) := packF most ys ys.length 0 (lft first)
theorem sub_ok {ys : List Ob} (h : AllOk ys) (A m : Nat) : AllOk ((ys.drop A).take m) := fun i hi => by
  have hl : i < m ∧ A + i < ys.length := by rw [List.length_take, List.length_drop] at hi; omega
  have e : ((ys.drop A).take m).getD i z12 = ys.getD (A + i) z12 := by simp [List.getD, hl.1]
  rw [e]; exact h (A + i) hl.2
set_option maxHeartbeats 16000000 in
theorem pack_ok (v : Value) (ys : List Ob) (first most : Int) (w : World) (hy : Os w v ys) (hl : ys.length ≤ 1024) (hok : AllOk ys) (hm : 40 ≤ most ∧ most ≤ 512) :
    Calls Try.prog 31 #[v, .int .i64 first, .int .i64 most] w fun e w' => ∃ r, e = .returned (.tuple #[r, .int .i64 0]) ∧ RowB w' w.heap.size r (packL most ys first) ∧ Below w.heap.size w w' := by
  obtain ⟨a, c, rfl⟩ := hy.form
  have cS := size_any _ ys w hy (by omega)
  rw [show sizeV ys = 3 + (osz ys : Int) from if_pos hok] at cS
  have hm1 : ¬ most < 40 := by omega
  have hm2 : ¬ (512 : Int) < most := by omega
  have hz : ¬ (3 + (osz ys : Int)) < 0 := by omega
  have hl2 : ¬ (1024 : Int) < (ys.length : Int) := by omega
  have HY := Lib.hid hy
  have HOK := Lib.hid hok
  clear hy hok
  go_enter Try.func31, Try.ntmps31
  go_wp2_with fail
  refine cS.mono ?_
  rintro e w1 ⟨rfl, hb⟩
  have B1 := Lib.hid hb
  clear hb cS
  go_wp2_with fail
  refine (left_any first _).mono ?_
  rintro e w2 ⟨rfl, hw⟩
  subst hw
  go_wp2_with fail
  go_loopw [8, 9, 10, 11] (fun out n A _ wr => ∃ (k f : Nat) (bs : List (Int × List Ob)) (m : Int), A = .int .i64 k ∧ k ≤ ys.length ∧ n = .int .i64 m ∧ RowB wr w.heap.size out bs ∧ ys.length ≤ k + f ∧ bs ++ packF most ys f k m = packL most ys first ∧ bs.length ≤ k ∧ Below w.heap.size w wr) (fun _ _ A _ _ => ys.length - (intOf A).toNat)
  case atStart => exact ⟨0, ys.length, [], lft first, rfl, Nat.zero_le _, rfl, RowB_nil _ _, by omega, rfl, Nat.le_refl _, B1.out⟩
  case round =>
    obtain ⟨A, f, bs, m, rfl, hA, rfl, hrow, hf, heq, hbl, hbel⟩ := hrel
    have HR := Lib.hid hrow
    have HE := Lib.hid heq
    have HB := Lib.hid hbel
    clear hrow heq hbel
    obtain ⟨wo, hwo⟩ : ∃ wo, wo = wr := ⟨_, rfl⟩
    subst hwo
    by_cases hlt : A < ys.length
    · go_wp2_with fail
      go_loopw [11] (fun t wr => ∃ q : Nat, t = .int .i64 q ∧ A + 1 ≤ q ∧ q ≤ ys.length ∧ (∀ s, A + 1 ≤ s → s < q → Fit1 most ys A s) ∧ Below wo.heap.size wo wr) (fun t _ => ys.length - (intOf t).toNat)
      case atStart => exact ⟨A + 1, by go_num, Nat.le_refl _, by omega, fun s h1 h2 => by omega, Below.refl _ _⟩
      case round =>
        obtain ⟨q, rfl, hq1, hq2, hfit, hbq⟩ := hrel
        have HF := Lib.hid hfit
        have HQ := Lib.hid hbq
        clear hfit hbq
        by_cases hq3 : q < ys.length
        · by_cases hq4 : (q : Int) - (A : Int) < 32
          · obtain ⟨b, off, rfl, hB, hc⟩ := ((HY.out.below HB.out).below HQ.out).at hlt
            have hcap : ys.length ≤ c := HY.out.cap
            go_wp2_with fail
            have S := ((HY.out.below HB.out).below HQ.out).sub A (q + 1 - A) (c - A) (by omega) (by omega) (by omega)
            have cZ := size_any _ _ _ S (by rw [List.length_take, List.length_drop]; omega)
            rw [show sizeV ((ys.drop A).take (q + 1 - A)) = 3 + (osz ((ys.drop A).take (q + 1 - A)) : Int) from if_pos (sub_ok HOK.out A _)] at cZ
            refine cZ.mono ?_
            rintro e w3 ⟨rfl, hbz⟩
            clear cZ S
            by_cases hq5 : 3 + (osz ((ys.drop A).take (q + 1 - A)) : Int) ≤ most
            · have HZ := Lib.hid (HQ.out.trans (hbz.mono HQ.out.size))
              clear hbz
              go_wp2_with fail
              go_roundw
              case rel =>
                refine ⟨q + 1, by go_num, by omega, by omega, ?_, HZ.out⟩
                intro s h1 h2
                by_cases h : s < q
                · exact HF.out s h1 h
                · obtain rfl : s = q := by omega
                  exact ⟨hq3, by omega, hq5⟩
              case measure => simp [intOf]; omega
            · have hnf : ¬ Fit1 most ys A q := fun h => hq5 h.2.2
              replace hbz := hbz.mono HQ.out.size
              go_wp2_with fail
              have hcut : cutTo most ys A = q := cutF_eq hnf ys.length (A + 1) hq1 (by omega) HF.out
              have S2 := ((HY.out.below HB.out).below (HQ.out.trans hbz)).sub A (q - A) (c - A) (by omega) (by omega) (by omega)
              refine (own_any _ ((ys.drop A).take (q - A)) _ S2 (by rw [List.length_take, List.length_drop]; omega)).mono ?_
              rintro e w4 ⟨r4, rfl, ho4, hb4⟩
              have hsl : ((ys.drop A).take (q - A)).length = q - A := by rw [List.length_take, List.length_drop]; omega
              rw [hsl] at ho4
              obtain ⟨a4, c4, rfl⟩ := own_form ho4
              have O4 := Lib.hid (own_mono ho4 (Nat.le_trans (HB.out.trans ((HQ.out.trans hbz).mono HB.out.size)).size (Nat.le_refl _)))
              have HR4 := Lib.hid ((HR.out.below (HQ.out.trans hbz)).below hb4)
              have HB4 := Lib.hid ((HB.out.trans ((HQ.out.trans hbz).mono HB.out.size)).trans (hb4.mono (HB.out.trans ((HQ.out.trans hbz).mono HB.out.size)).size))
              have H1 := Lib.hid (own_one ho4)
              clear ho4 hb4 S2
              go_wp2_with (at_builtin; refine bapp_any rfl (.tmp 56) (.tmp 64) rfl w.heap.size bs m _ ((ys.drop A).take (q - A)) w4 rfl HR4.out O4.out H1.out rfl (by omega) HB4.out.size ?_; intro v5 w5 hrow5 hb5 hs5; have R5 := Lib.hid hrow5; have B5 := Lib.hid (HB4.out.trans hb5); clear hrow5 hb5 hs5)
              refine (next_any m _).mono ?_
              rintro e w6 ⟨rfl, hw⟩
              subst hw
              go_wp2_with fail
              go_roundw
              case rel =>
                obtain ⟨f', rfl⟩ : ∃ f', f = f' + 1 := ⟨f - 1, by omega⟩
                have he := HE.out
                rw [packF, if_pos hlt, hcut] at he
                exact ⟨q, f', bs ++ [(m, (ys.drop A).take (q - A))], nxt m, rfl, hq2, rfl, R5.out, by omega, by rw [List.append_assoc]; exact he, by rw [List.length_append]; simp; omega, B5.out⟩
              case measure => simp [intOf]; omega
          · have hnf : ¬ Fit1 most ys A q := fun h => hq4 (by have := h.2.1; omega)
            obtain ⟨b, off, rfl, hB, hc⟩ := ((HY.out.below HB.out).below HQ.out).at hlt
            have hcap : ys.length ≤ c := HY.out.cap
            have hbz : Below wo.heap.size wr wr := Below.refl _ _
            go_wp2_with fail
            have hcut : cutTo most ys A = q := cutF_eq hnf ys.length (A + 1) hq1 (by omega) HF.out
            have S2 := ((HY.out.below HB.out).below (HQ.out.trans hbz)).sub A (q - A) (c - A) (by omega) (by omega) (by omega)
            refine (own_any _ ((ys.drop A).take (q - A)) _ S2 (by rw [List.length_take, List.length_drop]; omega)).mono ?_
            rintro e w4 ⟨r4, rfl, ho4, hb4⟩
            have hsl : ((ys.drop A).take (q - A)).length = q - A := by rw [List.length_take, List.length_drop]; omega
            rw [hsl] at ho4
            obtain ⟨a4, c4, rfl⟩ := own_form ho4
            have O4 := Lib.hid (own_mono ho4 (Nat.le_trans (HB.out.trans ((HQ.out.trans hbz).mono HB.out.size)).size (Nat.le_refl _)))
            have HR4 := Lib.hid ((HR.out.below (HQ.out.trans hbz)).below hb4)
            have HB4 := Lib.hid ((HB.out.trans ((HQ.out.trans hbz).mono HB.out.size)).trans (hb4.mono (HB.out.trans ((HQ.out.trans hbz).mono HB.out.size)).size))
            have H1 := Lib.hid (own_one ho4)
            clear ho4 hb4 S2
            go_wp2_with (at_builtin; refine bapp_any rfl (.tmp 56) (.tmp 64) rfl w.heap.size bs m _ ((ys.drop A).take (q - A)) w4 rfl HR4.out O4.out H1.out rfl (by omega) HB4.out.size ?_; intro v5 w5 hrow5 hb5 hs5; have R5 := Lib.hid hrow5; have B5 := Lib.hid (HB4.out.trans hb5); clear hrow5 hb5 hs5)
            refine (next_any m _).mono ?_
            rintro e w6 ⟨rfl, hw⟩
            subst hw
            go_wp2_with fail
            go_roundw
            case rel =>
              obtain ⟨f', rfl⟩ : ∃ f', f = f' + 1 := ⟨f - 1, by omega⟩
              have he := HE.out
              rw [packF, if_pos hlt, hcut] at he
              exact ⟨q, f', bs ++ [(m, (ys.drop A).take (q - A))], nxt m, rfl, hq2, rfl, R5.out, by omega, by rw [List.append_assoc]; exact he, by rw [List.length_append]; simp; omega, B5.out⟩
            case measure => simp [intOf]; omega
        · have hnf : ¬ Fit1 most ys A q := fun h => hq3 h.1
          obtain ⟨b, off, rfl, hB, hc⟩ := ((HY.out.below HB.out).below HQ.out).at hlt
          have hcap : ys.length ≤ c := HY.out.cap
          have hbz : Below wo.heap.size wr wr := Below.refl _ _
          go_wp2_with fail
          have hcut : cutTo most ys A = q := cutF_eq hnf ys.length (A + 1) hq1 (by omega) HF.out
          have S2 := ((HY.out.below HB.out).below (HQ.out.trans hbz)).sub A (q - A) (c - A) (by omega) (by omega) (by omega)
          refine (own_any _ ((ys.drop A).take (q - A)) _ S2 (by rw [List.length_take, List.length_drop]; omega)).mono ?_
          rintro e w4 ⟨r4, rfl, ho4, hb4⟩
          have hsl : ((ys.drop A).take (q - A)).length = q - A := by rw [List.length_take, List.length_drop]; omega
          rw [hsl] at ho4
          obtain ⟨a4, c4, rfl⟩ := own_form ho4
          have O4 := Lib.hid (own_mono ho4 (Nat.le_trans (HB.out.trans ((HQ.out.trans hbz).mono HB.out.size)).size (Nat.le_refl _)))
          have HR4 := Lib.hid ((HR.out.below (HQ.out.trans hbz)).below hb4)
          have HB4 := Lib.hid ((HB.out.trans ((HQ.out.trans hbz).mono HB.out.size)).trans (hb4.mono (HB.out.trans ((HQ.out.trans hbz).mono HB.out.size)).size))
          have H1 := Lib.hid (own_one ho4)
          clear ho4 hb4 S2
          go_wp2_with (at_builtin; refine bapp_any rfl (.tmp 56) (.tmp 64) rfl w.heap.size bs m _ ((ys.drop A).take (q - A)) w4 rfl HR4.out O4.out H1.out rfl (by omega) HB4.out.size ?_; intro v5 w5 hrow5 hb5 hs5; have R5 := Lib.hid hrow5; have B5 := Lib.hid (HB4.out.trans hb5); clear hrow5 hb5 hs5)
          refine (next_any m _).mono ?_
          rintro e w6 ⟨rfl, hw⟩
          subst hw
          go_wp2_with fail
          go_roundw
          case rel =>
            obtain ⟨f', rfl⟩ : ∃ f', f = f' + 1 := ⟨f - 1, by omega⟩
            have he := HE.out
            rw [packF, if_pos hlt, hcut] at he
            exact ⟨q, f', bs ++ [(m, (ys.drop A).take (q - A))], nxt m, rfl, hq2, rfl, R5.out, by omega, by rw [List.append_assoc]; exact he, by rw [List.length_append]; simp; omega, B5.out⟩
          case measure => simp [intOf]; omega
    · go_wp2_with fail
      go_ret2
      have he := HE.out
      have hn : packF most ys f A m = [] := by
        cases f with
        | zero => rfl
        | succ f => rw [packF, if_neg hlt]
      rw [hn, List.append_nil] at he
      rw [he] at HR
      exact ⟨_, rfl, HR.out, HB.out⟩
end Go.Proofs.Yticjeknadddhoaa

