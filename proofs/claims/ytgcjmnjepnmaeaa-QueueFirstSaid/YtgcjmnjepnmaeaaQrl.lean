/- The reference's queue: Clear; packets compared. No conditions but on lengths. -/
import Derived.Test.YtgcjmnjepnmaeaaQrt
import Derived.StillTailTactics
namespace Go.Proofs.Ytgcjmnjepnmaeaa
set_option maxRecDepth 100000
open Go.RowKit

theorem kapp1_any {ops : Array Oper} {rest : List Oper} {o : Oper} {a : Act} {Q : Exit → Act → World → Prop} {W : World} (hgd : o.guard = none) (s x : Operand)
    (ho : o.op = .call { callee := .builtin .append, args := #[s, x], argTypes := #[30, 30] }) (w : World) (y : Pk) (hW : W = w.alloc (.cells #[.int .i64 y.1, .int .i64 y.2.1, .int .i64 y.2.2.1, .int .i64 y.2.2.2.1, .string y.2.2.2.2] 34)) (S : Nat) (v : Value) (xs : List Pk)
    (hs : a.eval s = v) (hx : a.eval x = .slice (some ⟨w.heap.size, 0, none⟩) 1 1) (hown : OwK w S v xs) (hl : xs.length ≤ 3000) (hS : S ≤ w.heap.size)
    (h : ∀ g cap w', OwK w' S (.slice (some ⟨g, 0, none⟩) (xs.length + 1) cap) (xs ++ [y]) → Below S w w' → wpList Try.prog ops Q rest (a.put o.dst (.slice (some ⟨g, 0, none⟩) (xs.length + 1) cap)) w') : wpList Try.prog ops Q (o :: rest) a W :=
  gapp1_any (R := RK) hgd s x ho w y 34 hW S v xs hs hx hown hl hS h
def clrL (l : List Pk) (d : Int) : List Pk := l.filter (fun y => !isTo d y)
theorem clrL_le (l : List Pk) (d : Int) : (clrL l d).length ≤ l.length := List.length_filter_le _ _
theorem clr_step (l : List Pk) (d : Int) (k : Nat) (h : k < l.length) : clrL (l.take (k + 1)) d = clrL (l.take k) d ++ if (l.getD k zPk).2.1 = d then [] else [l.getD k zPk] := by
  rw [take_succ_getD l k h]
  unfold clrL
  rw [List.filter_append]
  congr 1
  generalize l.getD k zPk = z
  by_cases hd : z.2.1 = d
  · rw [if_pos hd, List.filter_cons_of_neg (by simp [isTo, hd])]; rfl
  · rw [if_neg hd, List.filter_cons_of_pos (by simp [isTo, hd])]; rfl
set_option maxHeartbeats 16000000 in
theorem rqclr_any (b : Nat) (m : Int) (v : Value) (l : List Pk) (d : Int) (w : World) (h : RQ w b m v l) (hl : l.length ≤ 2000) :
    Calls Try.prog 20 #[.pointer (some ⟨b, 0, none⟩), .int .i64 d] w fun e w' => e = .returned (.int .i64 (cntN l d)) ∧ Chg (QF b v) w w' ∧ ∃ v', RQ w' b m v' (clrL l d) ∧ ∀ g, v'.ownBlock = some g → v.ownBlock = some g ∨ w.heap.size ≤ g := by
  have C1 := Lib.hid (rqcnt_any b m v l d w h hl)
  obtain ⟨a, c, rfl⟩ := h.own.form
  have HQ := Lib.hid h
  clear h
  obtain ⟨c0, c1, cf⟩ := HQ.out.cells
  go_enter Try.func20, Try.ntmps20
  go_wp2_with fail
  refine C1.out.mono ?_
  rintro e w1 ⟨rfl, rfl⟩
  go_wp2_with fail
  go_loopw [6, 7] (fun lv i wr => ∃ (k n : Nat) (ax : Option Addr) (cx : Nat), k ≤ l.length ∧ i = .int .i64 k ∧ lv = .slice ax n cx ∧ OwK wr w.heap.size (.slice ax n cx) (clrL (l.take k) d) ∧ Below w.heap.size w wr) (fun _ i _ => l.length - (intOf i).toNat)
  case atStart => exact ⟨0, 0, none, 0, Nat.zero_le _, rfl, rfl, OwK_nil w _, Below.refl _ _⟩
  case round =>
    obtain ⟨k, nx, ax, cx, hk, rfl, rfl, hown, hbel⟩ := hrel
    have HQR := Lib.hid (HQ.out.below hbel)
    have HO := Lib.hid hown
    have HB := Lib.hid hbel
    clear hbel hown c0 c1 cf
    obtain ⟨c0, c1, cf⟩ := HQR.out.cells
    by_cases hlt : k < l.length
    · obtain ⟨b2, off, rfl, hB, p0, p1, p2, p3, p4⟩ := HQR.out.own.ks.at hlt
      have hst := clr_step l d k hlt
      obtain ⟨y, hy⟩ : ∃ y, l.getD k zPk = y := ⟨_, rfl⟩
      rw [hy] at p0 p1 p2 p3 p4 hst
      have HST := Lib.hid hst
      clear hst hy
      by_cases hd : y.2.1 = d
      · have hq : (y.2.1 != d) = false := by simpa using hd
        have HD := Lib.hid hd
        clear hd
        go_wp2_with fail
        go_roundw
        case rel =>
          refine ⟨k + 1, nx, ax, cx, by omega, by go_num, rfl, ?_, HB.out⟩
          rw [HST.out, if_pos HD.out, List.append_nil]; exact HO.out
        case measure => simp [intOf]; omega
      · have hq : (y.2.1 != d) = true := by simpa using hd
        have HD := Lib.hid hd
        have hlen : (clrL (l.take k) d).length ≤ 3000 := by have := clrL_le (l.take k) d; rw [List.length_take] at this; omega
        have HLE := Lib.hid hlen
        clear hd hlen
        rw [if_neg HD.out] at HST
        obtain ⟨xs, hxs⟩ : ∃ xs, clrL (l.take k) d = xs := ⟨_, rfl⟩
        rw [hxs] at HO HLE HST
        clear hxs
        obtain rfl : nx = xs.length := by obtain ⟨a9, c9, h9⟩ := HO.out.form; cases h9; rfl
        have HSW : Hid (w.heap.size ≤ wr.heap.size) := HB.out.size
        go_wp2_with (at_builtin; refine kapp1_any rfl (.tmp 30) (.tmp 38) rfl wr y rfl w.heap.size (.slice ax xs.length cx) xs rfl rfl HO.out HLE.out HSW.out ?_; intro g cap w' ho9 hb9; have HO9 := Lib.hid ho9; have HB9 := Lib.hid (HB.out.trans hb9); clear ho9 hb9)
        go_roundw
        case rel =>
          refine ⟨k + 1, _, _, _, by omega, by go_num, rfl, ?_, HB9.out⟩
          rw [HST.out]; exact HO9.out
        case measure => simp [intOf]; omega
    · obtain rfl : k = l.length := by omega
      rw [List.take_length] at HO
      have hrq := RQ.set HQR.out.hp (HO.out.mono (show b + 1 ≤ w.heap.size from HQ.out.lt))
      have hcg : Chg (QF b (.slice a l.length c)) w (wr.setCell ⟨b, 1, none⟩ (.slice ax nx cx)) := (chg0 HB.out).setCell (.inl (.inl rfl)) _
      have HRQ := Lib.hid hrq
      have HCG := Lib.hid hcg
      clear hrq hcg
      go_wp2_with fail
      go_ret
      exact ⟨rfl, HCG.out, _, HRQ.out, fun g hg => .inr (HO.out.lt g hg).1⟩
theorem krow_ext {l l' : List Pk} (hn : l.length = l'.length) (h : ∀ i, i < l.length → l.getD i zPk = l'.getD i zPk) : l = l' := by
  refine List.ext_getElem hn fun i h1 h2 => ?_
  have := h i h1
  simpa [List.getD, h1, h2] using this
set_option maxHeartbeats 8000000 in
/-- The reference's Same of packets. -/
theorem rsameK_any (v u : Value) (ys zs : List Pk) (w : World) (hy : Ks w v ys) (hz : Ks w u zs) (hl : ys.length ≤ 3000) :
    Calls Try.prog 21 #[v, u] w fun e w' => (∃ b : Bool, e = .returned (.bool b) ∧ (b = true ↔ ys = zs)) ∧ Below w.heap.size w w' := by
  obtain ⟨a, c, rfl⟩ := hy.form
  obtain ⟨a', c', rfl⟩ := hz.form
  have HY := Lib.hid hy
  have HZ := Lib.hid hz
  clear hy hz
  by_cases hne : ys.length = zs.length
  · have hL : ((ys.length : Int) != (zs.length : Int)) = false := by rw [hne]; simp
    have HN := Lib.hid hne
    clear hne
    go_enter Try.func21, Try.ntmps21
    go_wp2_with fail
    go_loopw [5] (fun i wr => ∃ k : Nat, k ≤ ys.length ∧ i = .int .i64 k ∧ (∀ i, i < k → ys.getD i zPk = zs.getD i zPk) ∧ Below w.heap.size w wr) (fun i _ => ys.length - (intOf i).toNat)
    case atStart => exact ⟨0, Nat.zero_le _, rfl, fun i h => absurd h (Nat.not_lt_zero _), Below.refl _ _⟩
    case round =>
      obtain ⟨k, hk, rfl, hsame, hbel⟩ := hrel
      have HS := Lib.hid hsame
      have HW := Lib.hid hbel
      clear hsame hbel
      by_cases hlt : k < ys.length
      · obtain ⟨b, off, rfl, hB, p0, p1, p2, p3, p4⟩ := (HY.out.below HW.out).at hlt
        have hlt2 : k < zs.length := by have := HN.out; omega
        obtain ⟨b2, off2, rfl, hB2, q0, q1, q2, q3, q4⟩ := (HZ.out.below HW.out).at hlt2
        obtain ⟨⟨y1, y2, y3, y4, y5⟩, hyk⟩ : ∃ y, ys.getD k zPk = y := ⟨_, rfl⟩
        obtain ⟨⟨z1, z2, z3, z4, z5⟩, hzk⟩ : ∃ z, zs.getD k zPk = z := ⟨_, rfl⟩
        rw [hyk] at p0 p1 p2 p3 p4
        rw [hzk] at q0 q1 q2 q3 q4
        simp only at p0 p1 p2 p3 p4 q0 q1 q2 q3 q4
        have HK := Lib.hid hyk
        have HK2 := Lib.hid hzk
        clear hyk hzk
        have E1 := guardPK
        have E2 := neqPK
        obtain ⟨q, hq⟩ : ∃ q, eqK y1 y2 y3 y4 y5 z1 z2 z3 z4 z5 = q := ⟨_, rfl⟩
        have HQ : Hid (q = true ↔ (y1, y2, y3, y4, y5) = (z1, z2, z3, z4, z5)) := by rw [← hq]; exact eqK_iff
        go_wp2_with fail
        go_region
        cases q with
        | true =>
          go_wp2_with fail
          go_roundw
          case rel =>
            refine ⟨k + 1, by omega, by go_num, ?_, HW.out.drew⟩
            intro j hj
            by_cases h : j < k
            · exact HS.out j h
            · obtain rfl : j = k := by omega
              rw [HK.out, HK2.out]; exact HQ.out.1 rfl
          case measure => simp [intOf]; omega
        | false =>
          go_wp2_with fail
          go_ret
          refine ⟨⟨false, rfl, ⟨(fun h => by cases h), fun h => ?_⟩⟩, HW.out.drew⟩
          subst h
          have := HQ.out.2 (HK.out.symm.trans HK2.out)
          cases this
      · obtain rfl : k = ys.length := by omega
        go_wp2_with fail
        go_ret
        exact ⟨⟨true, rfl, ⟨fun _ => krow_ext HN.out HS.out, fun _ => rfl⟩⟩, HW.out⟩
  · have hL : ((ys.length : Int) != (zs.length : Int)) = true := by simpa using fun h : (ys.length : Int) = zs.length => hne (Int.ofNat.inj h)
    go_enter Try.func21, Try.ntmps21
    go_wp2_with fail
    go_ret
    exact ⟨⟨false, rfl, ⟨(fun h => by cases h), fun h => absurd (congrArg List.length h) hne⟩⟩, Below.refl _ _⟩
end Go.Proofs.Ytgcjmnjepnmaeaa
