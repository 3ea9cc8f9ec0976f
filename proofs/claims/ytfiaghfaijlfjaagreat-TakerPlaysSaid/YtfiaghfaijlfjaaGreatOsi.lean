/- Rows of objects: how many bytes a batch of them has, by the reference's size. No conditions but on lengths. -/
import Derived.Test.YtfiaghfaijlfjaaGreatOsa
namespace Go.Proofs.YtfiaghfaijlfjaaGreat
set_option maxRecDepth 100000
open Go.RowKit Go.Sort

/-- How many bytes these objects have. -/
def osz (ys : List Ob) : Nat := (ys.map fun y => y.bs.length).sum
def AllOk (ys : List Ob) : Prop := ∀ i, i < ys.length → (ys.getD i z12).Ok
instance (ys : List Ob) : Decidable (AllOk ys) := by unfold AllOk; infer_instance
theorem osz_succ (ys : List Ob) (k : Nat) (h : k < ys.length) : osz (ys.take (k + 1)) = osz (ys.take k) + (ys.getD k z12).bs.length := by
  unfold osz
  rw [List.take_succ_eq_append_getElem h, List.map_append, List.sum_append]
  simp [List.getD, h]
theorem bs_le (y : Ob) : y.bs.length ≤ 40 := by
  unfold Ob.bs obBs
  split
  · have h := htB_le y.n y.t y.o y.r y.d y.i
    unfold obB
    split
    · simp
    · split
      · simp; omega
      · split
        · simp [i8_len]
        · simp; omega
  · simp
theorem osz_le : ∀ ys : List Ob, osz ys ≤ 40 * ys.length
  | [] => by simp [osz]
  | y :: ys => by
    have h1 := osz_le ys
    have h2 := bs_le y
    simp only [osz, List.map_cons, List.sum_cons, List.length_cons] at *
    omega
def sizeV (ys : List Ob) : Int := if AllOk ys then 3 + (osz ys : Int) else -1
set_option maxHeartbeats 8000000 in
theorem size_any (v : Value) (ys : List Ob) (w : World) (hy : Os w v ys) (hl : ys.length ≤ 3000) :
    Calls Tryz.prog 53 #[v] w fun e w' => e = .returned (.int .i64 (sizeV ys)) ∧ Below w.heap.size w w' := by
  obtain ⟨a, c, rfl⟩ := hy.form
  have HY := Lib.hid hy
  clear hy
  go_enter Tryz.func53, Tryz.ntmps53
  go_wp2_with fail
  go_loopw [3, 4, 5, 6] (fun n i _ _ wr => ∃ k : Nat, k ≤ ys.length ∧ i = .int .i64 k ∧ n = .int .i64 (3 + (osz (ys.take k) : Int)) ∧ (∀ i, i < k → (ys.getD i z12).Ok) ∧ Below w.heap.size w wr) (fun _ i _ _ _ => ys.length - (intOf i).toNat)
  case atStart => exact ⟨0, Nat.zero_le _, rfl, rfl, fun i h => absurd h (Nat.not_lt_zero _), Below.refl _ _⟩
  case round =>
    obtain ⟨k, hk, rfl, rfl, hok, hbel⟩ := hrel
    have HO := Lib.hid hok
    have HB := Lib.hid hbel
    clear hok hbel
    have hz := osz_le (ys.take k)
    have hzk : osz (ys.take k) ≤ 120000 := by rw [List.length_take] at hz; omega
    clear hz
    by_cases hlt : k < ys.length
    · obtain ⟨b, off, rfl, hB, hc⟩ := (HY.out.below HB.out).at hlt
      have hsucc := Lib.hid (osz_succ ys k hlt)
      obtain ⟨y, hyk⟩ : ∃ y, ys.getD k z12 = y := ⟨_, rfl⟩
      rw [hyk] at hc hsucc
      obtain ⟨p0, p1, p2, p3, p4, p5, p6, p7, p8, p9, p10, p11⟩ := hc.all
      have HK := Lib.hid hyk
      have hyl := bs_le y
      clear hc hyk
      by_cases hq : y.Ok
      · have cB : ∀ w, Calls Tryz.prog 82 #[.agg #[.int .i64 y.k, .int .i64 y.x, .bool y.n, .int .i64 y.t, .int .i64 y.o, .int .i64 y.r, .int .i64 y.d, .int .i64 y.i, .int .i64 y.p, .int .i64 y.q, .int .i64 y.s, .int .i64 y.m]] w (RetB y.bs 0 w) := fun w => by
          have h := orbytes_any y.k y.x y.n y.t y.o y.r y.d y.i y.p y.q y.s y.m w
          rwa [show obc y.k y.x y.n y.t y.o y.r y.d y.i y.p y.q y.s y.m = 0 from obc_ok hq] at h
        have HQ := Lib.hid hq
        clear hq
        go_wp2_with fail
        refine (cB _).mono ?_
        rintro e w1 ⟨r1, rfl, hr1, hb⟩
        replace HB := Lib.hid (HB.out.trans (hb.mono HB.out.size))
        obtain ⟨a1, c1, rfl⟩ := Bs_len hr1
        clear hb hr1
        go_wp2_with fail
        go_roundw
        case rel =>
          refine ⟨k + 1, by omega, by go_num, ?_, ?_, HB.out⟩
          · rw [hsucc.out]; go_num
          · intro j hj
            by_cases h : j < k
            · exact HO.out j h
            · obtain rfl : j = k := by omega
              rw [HK.out]; exact HQ.out
        case measure => simp [intOf]; omega
      · have cB : ∀ w, Calls Tryz.prog 82 #[.agg #[.int .i64 y.k, .int .i64 y.x, .bool y.n, .int .i64 y.t, .int .i64 y.o, .int .i64 y.r, .int .i64 y.d, .int .i64 y.i, .int .i64 y.p, .int .i64 y.q, .int .i64 y.s, .int .i64 y.m]] w (RetB y.bs 1 w) := fun w => by
          have h := orbytes_any y.k y.x y.n y.t y.o y.r y.d y.i y.p y.q y.s y.m w
          rwa [show obc y.k y.x y.n y.t y.o y.r y.d y.i y.p y.q y.s y.m = 1 from obc_no hq] at h
        have HQ := Lib.hid hq
        clear hq
        go_wp2_with fail
        refine (cB _).mono ?_
        rintro e w1 ⟨r1, rfl, hr1, hb⟩
        replace HB := Lib.hid (HB.out.trans (hb.mono HB.out.size))
        obtain ⟨a1, c1, rfl⟩ := Bs_len hr1
        clear hb hr1
        go_wp2_with fail
        go_ret
        refine ⟨?_, HB.out⟩
        have hv : sizeV ys = -1 := if_neg (fun h => HQ.out (by rw [← HK.out]; exact h k hlt))
        rw [hv]; rfl
    · obtain rfl : k = ys.length := by omega
      go_wp2_with fail
      go_ret
      refine ⟨?_, HB.out⟩
      have hv : sizeV ys = 3 + (osz ys : Int) := if_pos (show AllOk ys from HO.out)
      rw [hv, List.take_length]; rfl
end Go.Proofs.YtfiaghfaijlfjaaGreat

