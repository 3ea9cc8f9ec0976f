/- The reference's Sort. No conditions but that the row is of a hundred numbers at most. -/
import Derived.Test.YtmchaomdcelikaaSor
namespace Go.Proofs.Ytmchaomdcelikaa
open Go.RowKit Go.Sort

def st (f n : Int) (L : List Int) (k : Nat) : List Int × Bool := (L.take k).foldl (stepI f n) ([], false)
theorem st_zero (f n : Int) (L : List Int) : st f n L 0 = ([], false) := rfl
theorem st_succ (f n : Int) (L : List Int) (k : Nat) (h : k < L.length) : st f n L (k + 1) = stepI f n (st f n L k) (L.getD k 0) := by
  unfold st
  rw [List.take_succ_eq_append_getElem h, List.foldl_append]
  simp [List.getD, h]
theorem st_all (f n : Int) (L : List Int) : fin n (st f n L L.length) = insF f n L := by unfold st insF; rw [List.take_length]
theorem stepI_len (f n : Int) (p : List Int × Bool) (y : Int) : (stepI f n p y).1.length ≤ p.1.length + 2 := by
  unfold stepI
  simp only
  split <;> split <;> simp
theorem st_len (f n : Int) (L : List Int) (k : Nat) (h : k ≤ L.length) : (st f n L k).1.length ≤ 2 * k := by
  induction k with
  | zero => simp [st_zero]
  | succ k ih =>
    have := stepI_len f n (st f n L k) (L.getD k 0)
    rw [← st_succ f n L k (by omega)] at this
    have := ih (by omega)
    omega
theorem step_tt (f n : Int) (m : List Int) (y : Int) (h : y = n) : stepI f n (m, true) y = (m, true) := by simp [stepI, h]
theorem step_tf (f n : Int) (m : List Int) (y : Int) (h : ¬ y = n) : stepI f n (m, true) y = (m ++ [y], true) := by simp [stepI, h]
theorem step_ft (f n : Int) (m : List Int) (y : Int) (_ : far f n ≤ far f y) (h : y = n) : stepI f n (m, false) y = (m ++ [n], true) := by simp [stepI, h]
theorem step_ff (f n : Int) (m : List Int) (y : Int) (h0 : far f n ≤ far f y) (h : ¬ y = n) : stepI f n (m, false) y = (m ++ [n] ++ [y], true) := by simp [stepI, h, h0]
theorem step_gt (f n : Int) (m : List Int) (y : Int) (h0 : ¬ far f n ≤ far f y) : stepI f n (m, false) y = (m ++ [y], false) := by
  have h : ¬ y = n := fun e => h0 (by rw [e]; exact Int.le_refl _)
  simp [stepI, h, h0]

theorem Zs_nil (w : World) : Zs w (.slice none 0 0) [] := ⟨by simp, .inl ⟨none, 0, rfl, fun _ => rfl, rfl⟩⟩
theorem lit1 (w : World) (a : Int) : Zs (w.alloc (.cells #[.int .i64 a] 3)) (.slice (some ⟨w.heap.size, 0, none⟩) 1 1) [a] := is_lit w [a] 3 _ 1 rfl rfl (by simp) _ rfl

set_option maxHeartbeats 8000000 in
theorem rsort_any (v : Value) (xs : List Int) (f : Int) (w : World) (hv : Zs w v xs) (h9 : xs.length ≤ 100) :
    Calls Try.prog 20 #[v, .int .i64 f] w fun e w' => ∃ u, e = .returned u ∧ Zs w' u (srt f xs) ∧ Below w.heap.size w w' := by
  have hlen := fun k => rsrt_len f (xs.take k)
  have hR := Lib.hid (rsrt_srt f xs)
  obtain ⟨a, cap, rfl, -, -, hc⟩ := Zs_open hv
  clear hv
  go_enter Try.func20, Try.ntmps20
  go_wp2_with fail
  go_loopw [5, 6] (fun v i wr => ∃ k : Nat, k ≤ xs.length ∧ i = .int .i64 k ∧ Zs wr v (rsrt f (xs.take k)) ∧ Below w.heap.size w wr) (fun _ i _ => xs.length - (intOf i).toNat)
  case atStart => exact ⟨0, Nat.zero_le _, rfl, Zs_nil _, Below.refl _ _⟩
  case round =>
    obtain ⟨k, hk, rfl, hout, hbel⟩ := hrel
    have HB := Lib.hid hbel
    have HO := Lib.hid hout
    by_cases hlt : k < xs.length
    · obtain ⟨b, off, rfl, hck0⟩ := hc k hlt
      have hck : wr.cell? ⟨b, off + k, none⟩ = some (.int .i64 (xs.getD k 0)) := by rw [hbel.cell (World.block_lt_of_cell? w _ hck0)]; exact hck0
      have HS := Lib.hid (rsrt_snoc f xs k hlt)
      have hL := hlen k
      simp only [List.length_take] at hL
      generalize rsrt f (xs.take k) = L at *
      have hL2 : L.length ≤ 100 := by omega
      generalize xs.getD k 0 = c at *
      have HA := Lib.hid (left_any c)
      generalize left c = n at *
      obtain ⟨a2, cap2, rfl, -, -, hc2⟩ := Zs_open hout
      clear hc hck0 hout hbel hL hlen
      go_wp2_with (go_at_call 24; refine (HA.out _).mono ?_; rintro e w1 ⟨rfl, rfl⟩)
      clear hck HA
      obtain ⟨wo, hwo⟩ : ∃ wo, wo = wr := ⟨_, rfl⟩
      subst hwo
      go_loopw [8, 9, 10] (fun m d j wq => ∃ q : Nat, q ≤ L.length ∧ j = .int .i64 q ∧ d = .bool (st f n L q).2 ∧ wq.ownsRow wo.heap.size 3 1 m (st f n L q).1.length ((st f n L q).1.map (Value.int .i64)) ∧ Below wo.heap.size wo wq) (fun _ _ j _ => L.length - (intOf j).toNat)
      case atStart => exact ⟨0, Nat.zero_le _, rfl, rfl, World.ownsRow_nil _ _ _ _, Below.refl _ _⟩
      case round =>
        obtain ⟨q, hq, rfl, rfl, hm, hb⟩ := hrel
        have OM := Lib.hid hm
        have BM := Lib.hid hb
        by_cases hq2 : q < L.length
        · obtain ⟨b2, off2, rfl, hck2⟩ := hc2 q hq2
          have SS := Lib.hid (st_succ f n L q hq2)
          have hSL := st_len f n L q hq
          have CK := Lib.hid hck2
          have hckr : wr.cell? ⟨b2, off2 + q, none⟩ = some (.int .i64 (L.getD q 0)) := by rw [hb.cell (World.block_lt_of_cell? wo _ hck2)]; exact hck2
          clear hc2 hm hb hck2
          generalize L.getD q 0 = y at *
          generalize st f n L q = p at *
          obtain ⟨M, d⟩ := p
          simp only at OM hSL
          cases d with
          | true =>
            by_cases hyn : y = n
            · subst hyn
              go_wp2_with fail
              go_roundw
              case rel =>
                rw [step_tt _ _ _ _ rfl] at SS
                exact ⟨q + 1, by omega, by go_num, by rw [SS.out], by rw [SS.out]; exact OM.out, BM.out⟩
              case measure => simp [intOf]; omega
            · have hne : (y == n) = false := by simpa using hyn
              have HY := Lib.hid hyn
              clear hyn
              go_wp2_with (at_builtin; refine app_any rfl (.tmp 52) (.tmp 57) rfl wo.heap.size M [y] (OM.out.alloc _) (lit1 wr y) (by simp; omega) (Nat.le_trans BM.out.size (by simp)) ?_; intro v5 w5 hown5 hb5 hs5 hn5; have O5 := Lib.hid hown5; have B5 := Lib.hid ((BM.out.alloc BM.out.size _).trans hb5); clear hown5 hb5 hs5 hn5)
              go_roundw
              case rel =>
                rw [step_tf _ _ _ _ HY.out] at SS
                exact ⟨q + 1, by omega, by go_num, by rw [SS.out], by rw [SS.out]; exact O5.out, B5.out⟩
              case measure => simp [intOf]; omega
          | false =>
            have FY := Lib.hid (rfar_any f y)
            have FN := Lib.hid (rfar_any f n)
            have H0 := Lib.hid (fun h => step_gt f n M y h)
            have H1 := Lib.hid (fun h h' => step_ft f n M y h h')
            have H2 := Lib.hid (fun h h' => step_ff f n M y h h')
            have HE := Lib.hid (fun h : ¬ far f n ≤ far f y => show ¬ y = n from fun e => h (by rw [e]; exact Int.le_refl _))
            generalize far f y = fy at *
            generalize far f n = fn at *
            by_cases hle : fn ≤ fy
            · by_cases hyn : y = n
              · subst hyn
                have E := Lib.hid (H1.out hle rfl)
                clear H0 H1 H2 HE
                go_wp2_with fail
                refine (FY.out _).mono ?_
                rintro e w3 ⟨rfl, rfl⟩
                go_wp2_with fail
                refine (FN.out _).mono ?_
                rintro e w4 ⟨rfl, rfl⟩
                go_wp2_with (at_builtin; refine app_any rfl (.tmp 42) (.tmp 44) rfl wo.heap.size M [y] (OM.out.alloc _) (lit1 wr y) (by simp; omega) (Nat.le_trans BM.out.size (by simp)) ?_; intro v5 w5 hown5 hb5 hs5 hn5; have O5 := Lib.hid hown5; have B5 := Lib.hid ((BM.out.alloc BM.out.size _).trans hb5); have hck5 : w5.cell? ⟨b2, off2 + q, none⟩ = some (.int .i64 y) := (B5.out.cell (World.block_lt_of_cell? wo _ CK.out)).trans CK.out; clear hown5 hb5 hs5 hn5)
                go_roundw
                case rel =>
                  rw [E.out] at SS
                  exact ⟨q + 1, by omega, by go_num, by rw [SS.out], by rw [SS.out]; exact O5.out, B5.out⟩
                case measure => simp [intOf]; omega
              · have E := Lib.hid (H2.out hle hyn)
                have hne : (y == n) = false := by simpa using hyn
                clear H0 H1 H2 HE hyn
                go_wp2_with fail
                refine (FY.out _).mono ?_
                rintro e w3 ⟨rfl, rfl⟩
                go_wp2_with fail
                refine (FN.out _).mono ?_
                rintro e w4 ⟨rfl, rfl⟩
                go_wp2_with (first
                  | (at_builtin; refine app_any rfl (.tmp 42) (.tmp 44) rfl wo.heap.size M [n] (OM.out.alloc _) (lit1 wr n) (by simp; omega) (Nat.le_trans BM.out.size (by simp)) ?_; intro v5 w5 hown5 hb5 hs5 hn5; have O5 := Lib.hid hown5; have B5 := Lib.hid ((BM.out.alloc BM.out.size _).trans hb5); have hck5 : w5.cell? ⟨b2, off2 + q, none⟩ = some (.int .i64 y) := (B5.out.cell (World.block_lt_of_cell? wo _ CK.out)).trans CK.out; clear hown5 hb5 hs5 hn5)
                  | (at_builtin; refine app_any rfl (.tmp 52) (.tmp 57) rfl wo.heap.size (M ++ [n]) [y] (O5.out.alloc _) (lit1 w5 y) (by simp; omega) (Nat.le_trans B5.out.size (by simp)) ?_; intro v6 w6 hown6 hb6 hs6 hn6; have O6 := Lib.hid hown6; have B6 := Lib.hid ((B5.out.alloc B5.out.size _).trans hb6); clear hown6 hb6 hs6 hn6))
                go_roundw
                case rel =>
                  rw [E.out] at SS
                  exact ⟨q + 1, by omega, by go_num, by rw [SS.out], by rw [SS.out]; exact O6.out, B6.out⟩
                case measure => simp [intOf]; omega
            · have E := Lib.hid (H0.out hle)
              have hne : (y == n) = false := by simpa using HE.out hle
              have hle' : decide (fn ≤ fy) = false := decide_eq_false hle
              clear H0 H1 H2 HE
              go_wp2_with fail
              refine (FY.out _).mono ?_
              rintro e w3 ⟨rfl, rfl⟩
              go_wp2_with fail
              refine (FN.out _).mono ?_
              rintro e w4 ⟨rfl, rfl⟩
              go_wp2_with (at_builtin; refine app_any rfl (.tmp 52) (.tmp 57) rfl wo.heap.size M [y] (OM.out.alloc _) (lit1 wr y) (by simp; omega) (Nat.le_trans BM.out.size (by simp)) ?_; intro v5 w5 hown5 hb5 hs5 hn5; have O5 := Lib.hid hown5; have B5 := Lib.hid ((BM.out.alloc BM.out.size _).trans hb5); clear hown5 hb5 hs5 hn5)
              go_roundw
              case rel =>
                rw [E.out] at SS
                exact ⟨q + 1, by omega, by go_num, by rw [SS.out], by rw [SS.out]; exact O5.out, B5.out⟩
              case measure => simp [intOf]; omega
        · obtain rfl : q = L.length := by omega
          have SA := Lib.hid (st_all f n L)
          have hSL := st_len f n L L.length (Nat.le_refl _)
          clear hc2 hm hb
          generalize st f n L L.length = p at *
          obtain ⟨M, d⟩ := p
          simp only at OM hSL
          cases d with
          | true =>
            have SA' : insF f n L = M := SA.out.symm
            have HS' := Lib.hid (HS.out.trans SA')
            clear HS SA SA'
            go_wp2_with fail
            go_roundw
            case rel => exact ⟨k + 1, by omega, by go_num, by rw [HS'.out]; exact Zs_of_own OM.out (by omega), HB.out.trans (BM.out.mono HB.out.size)⟩
            case measure => simp [intOf]; omega
          | false =>
            have SA' : insF f n L = M ++ [n] := SA.out.symm
            have HS' := Lib.hid (HS.out.trans SA')
            clear HS SA SA'
            go_wp2_with (at_builtin; refine app_any rfl (.tmp 61) (.tmp 63) rfl wo.heap.size M [n] (OM.out.alloc _) (lit1 wr n) (by simp; omega) (Nat.le_trans BM.out.size (by simp)) ?_; intro v5 w5 hown5 hb5 hs5 hn5; have O5 := Lib.hid hown5; have B5 := Lib.hid ((BM.out.alloc BM.out.size _).trans hb5); clear hown5 hb5 hs5 hn5)
            go_roundw
            case rel => exact ⟨k + 1, by omega, by go_num, by rw [HS'.out]; exact Zs_of_own O5.out (by simp; omega), HB.out.trans (B5.out.mono HB.out.size)⟩
            case measure => simp [intOf]; omega
    · obtain rfl : k = xs.length := by omega
      rw [List.take_length] at HO
      obtain ⟨a2, cap2, rfl, -, -, -⟩ := Zs_open HO.out
      clear hc hout hbel
      go_wp2_with fail
      go_ret
      exact ⟨_, rfl, by rw [← hR.out]; exact HO.out, HB.out⟩
#print axioms rsort_any
end Go.Proofs.Ytmchaomdcelikaa
