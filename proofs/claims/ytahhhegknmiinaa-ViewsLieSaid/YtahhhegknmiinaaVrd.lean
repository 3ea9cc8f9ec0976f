/- The reference's views: Drop. No conditions but on lengths. -/
import Derived.Test.YtahhhegknmiinaaVrs
namespace Go.Proofs.Ytahhhegknmiinaa
set_option maxRecDepth 100000
open Go.RowKit

/-- All but the view of a node. -/
def dropF (l : List Vw) (id : Int) : List Vw := l.filter (fun y => !isId id y)
theorem dropF_le (l : List Vw) (id : Int) : (dropF l id).length ≤ l.length := List.length_filter_le _ _
theorem drop_step (l : List Vw) (id : Int) (k : Nat) (h : k < l.length) : dropF (l.take (k + 1)) id = dropF (l.take k) id ++ if (l.getD k zVw).1 = id then [] else [l.getD k zVw] := by
  rw [vtake_succ l k h]
  unfold dropF
  rw [List.filter_append]
  congr 1
  generalize l.getD k zVw = z
  by_cases hd : z.1 = id
  · rw [if_pos hd, List.filter_cons_of_neg (by simp [isId, hd])]; rfl
  · rw [if_neg hd, List.filter_cons_of_pos (by simp [isId, hd])]; rfl
def dropE (l : List Vw) (id : Int) : Int := if VOk l then (if (dropF l id).length = l.length then 7 else 0) else 1
def dropL (l : List Vw) (id : Int) : List Vw := if VOk l then (if (dropF l id).length = l.length then [] else dropF l id) else []
set_option maxHeartbeats 4000000 in
theorem rvdrop_any (v : Value) (l : List Vw) (id : Int) (w : World) (hv : Vs w v l) (hl : l.length ≤ 1100) :
    Calls Try.prog 15 #[v, .int .i64 id] w fun e w' => (∃ a c, e = .returned (.tuple #[.slice a (dropL l id).length c, .int .i64 (dropE l id)]) ∧ OwV w' w.heap.size (.slice a (dropL l id).length c) (dropL l id)) ∧ Below w.heap.size w w' := by
  obtain ⟨a, c, rfl⟩ := hv.form
  have C1 := Lib.hid (rvright_any (.slice a l.length c) l w hv (by omega))
  have HV0 := Lib.hid hv
  clear hv
  by_cases hok : VOk l
  · rw [decide_eq_true hok] at C1
    have HOK := Lib.hid hok
    clear hok
    go_enter Try.func15, Try.ntmps15
    go_wp2_with fail
    refine C1.out.mono ?_
    rintro e w1 ⟨rfl, hb⟩
    have HV := Lib.hid (HV0.out.below hb)
    have HB0 := Lib.hid hb
    clear hb C1
    go_wp2_with fail
    go_loopw [6, 7] (fun lv i wr => ∃ (k : Nat) (ax : Option Addr) (cx : Nat) (xs : List Vw), k ≤ l.length ∧ i = .int .i64 k ∧ lv = .slice ax xs.length cx ∧ Hid (dropF (l.take k) id = xs) ∧ Hid (OwV wr w1.heap.size (.slice ax xs.length cx) xs) ∧ Hid (Below w1.heap.size w1 wr)) (fun _ i _ => l.length - (intOf i).toNat)
    case atStart => exact ⟨0, none, 0, [], Nat.zero_le _, rfl, rfl, rfl, OwV_nil w1 _, Below.refl _ _⟩
    case round =>
      obtain ⟨k, ax, cx, xs, hk, rfl, rfl, HF, HO, HB⟩ := hrel
      have hxl : xs.length ≤ k := by
        have h1 := dropF_le (l.take k) id
        rw [HF.out, List.length_take] at h1
        omega
      have HSW : Hid (w1.heap.size ≤ wr.heap.size) := HB.out.size
      by_cases hlt : k < l.length
      · obtain ⟨b2, off, rfl, hB, p0, p1, p2, p3, p4, p5, p6⟩ := (HV.out.below HB.out).at hlt
        have hst := drop_step l id k hlt
        rw [HF.out] at hst
        obtain ⟨y, hy⟩ : ∃ y, l.getD k zVw = y := ⟨_, rfl⟩
        rw [hy] at p0 p1 p2 p3 p4 p5 p6 hst
        clear hy
        by_cases hd : y.1 = id
        · have q1 : (y.1 != id) = false := by simpa using hd
          rw [if_pos hd, List.append_nil] at hst
          have HST := Lib.hid hst
          clear hd hst
          go_wp2_with fail
          go_roundw
          case rel => exact ⟨k + 1, ax, cx, xs, by omega, by go_num, rfl, HST.out, HO.out, HB.out⟩
          case measure => simp [intOf]; omega
        · have q1 : (y.1 != id) = true := by simpa using hd
          rw [if_neg hd] at hst
          have HST := Lib.hid hst
          have HLE1 : Hid (xs.length ≤ 3000) := by show _ ≤ _; omega
          clear hd hst
          go_wp2_with (at_builtin; refine vapp1_any rfl (.tmp 24) (.tmp 29) rfl wr y rfl w1.heap.size (.slice ax xs.length cx) xs rfl rfl HO.out HLE1.out HSW.out ?_; intro g1 cap1 wa ho9 hb9; have HO1 := Lib.hid ho9; have HA1 := Lib.hid hb9; clear ho9 hb9)
          go_roundw
          case rel => exact ⟨k + 1, some ⟨g1, 0, none⟩, cap1, xs ++ [y], by omega, by go_num, by rw [List.length_append]; rfl, HST.out, by have h9 := HO1.out; rw [List.length_append]; exact h9, HB.out.trans HA1.out⟩
          case measure => simp [intOf]; omega
      · obtain rfl : k = l.length := by omega
        rw [List.take_length] at HF
        have HBX := Lib.hid (HB0.out.trans (HB.out.mono HB0.out.size))
        by_cases he : xs.length = l.length
        · have q1 : ((xs.length : Int) == (l.length : Int)) = true := by simp [he]
          have F : Hid (dropE l id = 7 ∧ dropL l id = []) := by
            show _ ∧ _
            unfold dropE dropL
            rw [HF.out, if_pos HOK.out, if_pos he, if_pos HOK.out, if_pos he]
            exact ⟨rfl, rfl⟩
          clear he
          go_wp2_with fail
          exact bodyPost_ret (v := .tuple #[.slice none 0 0, .int .i64 7]) (by simp [results, Try.results15, go_sem]) rfl ⟨by rw [F.out.1, F.out.2]; exact ⟨none, 0, rfl, OwV_nil _ _⟩, HBX.out⟩
        · have q1 : ((xs.length : Int) == (l.length : Int)) = false := by simpa using fun h : (xs.length : Int) = l.length => he (Int.ofNat.inj h)
          have F : Hid (dropE l id = 0 ∧ dropL l id = xs) := by
            show _ ∧ _
            unfold dropE dropL
            rw [HF.out, if_pos HOK.out, if_neg he, if_pos HOK.out, if_neg he]
            exact ⟨rfl, rfl⟩
          have HOX := Lib.hid (HO.out.mono HB0.out.size)
          clear he
          go_wp2_with fail
          exact bodyPost_ret (v := .tuple #[.slice ax xs.length cx, .int .i64 0]) (by simp [results, Try.results15, go_sem]) rfl ⟨by rw [F.out.1, F.out.2]; exact ⟨_, _, rfl, HOX.out⟩, HBX.out⟩
  · rw [decide_eq_false hok] at C1
    have F : Hid (dropE l id = 1 ∧ dropL l id = []) := by
      show _ ∧ _
      unfold dropE dropL
      rw [if_neg hok, if_neg hok]
      exact ⟨rfl, rfl⟩
    clear hok
    go_enter Try.func15, Try.ntmps15
    go_wp2_with fail
    refine C1.out.mono ?_
    rintro e w1 ⟨rfl, hb⟩
    have HB0 := Lib.hid hb
    clear hb C1
    go_wp2_with fail
    exact bodyPost_ret (v := .tuple #[.slice none 0 0, .int .i64 1]) (by simp [results, Try.results15, go_sem]) rfl ⟨by rw [F.out.1, F.out.2]; exact ⟨none, 0, rfl, OwV_nil _ _⟩, HB0.out⟩
end Go.Proofs.Ytahhhegknmiinaa
