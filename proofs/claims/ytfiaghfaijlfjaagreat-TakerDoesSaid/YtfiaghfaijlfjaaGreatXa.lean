/- The reference's taker in memory; where a number is held. No conditions but on lengths. The reference's Sort. No conditions but that the row is of a hundred numbers at most. The reference's Held. No conditions but on lengths. The reference's Ack. No conditions but on lengths. append of a part of a row of batches; one that is taken out of a row. No conditions but on lengths. The reference's Take. No conditions but on lengths. -/
import Derived.Test.YtfiaghfaijlfjaaGreatPm
import Derived.Test.YtfiaghfaijlfjaaGreatKm
import Derived.Test.YtfiaghfaijlfjaaGreatZin
import Derived.Test.YtfiaghfaijlfjaaGreatByt
import Derived.Test.YtfiaghfaijlfjaaGreatRint
import Derived.Test.YtfiaghfaijlfjaaGreatPa
import Derived.Test.YtfiaghfaijlfjaaGreatPc
import Derived.Test.YtfiaghfaijlfjaaGreatTyp5
namespace Go.Proofs.YtfiaghfaijlfjaaGreat
set_option maxRecDepth 100000
set_option linter.unusedVariables false
open Go.RowKit

theorem infoIN : (Tryz.prog.info? 3).map (fun i => (i.zero, i.size, i.bytes)) = some (some (.int .i64 0), 1, 8) := by kernel_rfl
theorem underIS : Tryz.prog.underlying 40 = some (.slice 3) := by kernel_rfl
theorem cellsIN : Tryz.prog.cellsOf 3 = 1 := by kernel_rfl
theorem cellsBT : Tryz.prog.cellsOf 34 = 2 := by kernel_rfl
noncomputable def RIN : RowT where
  α := Int
  d := 0
  cl := fun n => [.int .i64 n]
  K := 1
  T := 3
  SL := 40
  zero := .int .i64 0
  bytes := 8
  hcl := fun _ => rfl
  hK := by decide
  hone := fun y u hu => by simp only [List.mem_singleton] at hu; subst hu; rfl
  hSL := underIS
  hinfo := infoIN
  hz := rfl
  hb := by decide
  hc := cellsIN
/-- A batch as it lies in a row: its number, its objects' slice. -/
abbrev Bq := Int × Option Addr × Nat × Nat
abbrev slq (q : Bq) : Value := .slice q.2.1 q.2.2.1 q.2.2.2
noncomputable def RBT : RowT where
  α := Bq
  d := (0, none, 0, 0)
  cl := fun q => [.int .i64 q.1, slq q]
  K := 2
  T := 34
  SL := 22
  zero := .agg #[.int .i64 0, .slice none 0 0]
  bytes := 32
  hcl := fun _ => rfl
  hK := by decide
  hone := fun y u hu => by
    simp only [List.mem_cons, List.not_mem_nil, or_false] at hu
    rcases hu with rfl | rfl <;> rfl
  hSL := underBS
  hinfo := infoBT
  hz := rfl
  hb := by decide
  hc := cellsBT
def zq : Bq := (0, none, 0, 0)
theorem gq_at (us : List Bq) (i j : Nat) (hi : i < us.length) (hj : j < 2) : (gflat RBT us)[i * 2 + j]? = ([.int .i64 (us.getD i zq).1, slq (us.getD i zq)] : List Value)[j]? := gflat_at RBT us i j hi hj
def OwQ (w : World) (v : Value) (us : List Bq) : Prop := w.ownsRow 0 34 2 v us.length (gflat RBT us)
def OwN (w : World) (v : Value) (ns : List Int) : Prop := w.ownsRow 0 3 1 v ns.length (gflat RIN ns)
abbrev Ys := List (Bq × Bt)
/-- Each of them reads as it should, its objects in blocks of J. -/
def YOk (w : World) (J : Nat → Prop) (Y : Ys) : Prop := ∀ y ∈ Y, y.1.1 = y.2.1 ∧ Os w (slq y.1) y.2.2 ∧ ∀ a n c, slq y.1 = .slice (some a) n c → y.2.2 ≠ [] → J a.block
theorem YOk.chg {w w' : World} {J G : Nat → Prop} {Y : Ys} (h : YOk w J Y) (hc : Chg G w w') (hG : ∀ k, J k → ¬ G k) : YOk w' J Y := fun y hy => ⟨(h y hy).1, (h y hy).2.1.chg hc (fun a n c e hn => hG _ ((h y hy).2.2 a n c e hn)), (h y hy).2.2⟩
theorem YOk.mono {w : World} {J J' : Nat → Prop} {Y : Ys} (h : YOk w J Y) (hK : ∀ k, J k → J' k) : YOk w J' Y := fun y hy => ⟨(h y hy).1, (h y hy).2.1, fun a n c e hn => hK _ ((h y hy).2.2 a n c e hn)⟩
/-- A row of batches reads. -/
theorem yk_bts {w : World} {K : Nat → Prop} {v : Value} {Y : Ys} (h : OwQ w v (Y.map Prod.fst)) (hy : YOk w K Y) : Bts w v (Y.map Prod.snd) := by
  unfold OwQ at h
  rw [List.length_map] at h
  rcases h.2 with ⟨h4, h5⟩ | ⟨g, cap, cur, h4, _, hg, _, _, hcs, htake⟩
  · refine .inl ⟨none, 0, h4, ?_⟩
    rw [List.eq_nil_of_length_eq_zero h5]
    rfl
  · refine .inr ⟨g, 0, cap, by rw [List.length_map]; exact h4, fun i hi => ?_⟩
    rw [List.length_map] at hi
    have e2 : (Y.map Prod.snd).getD i zb = Y[i].2 := by simp [List.getD, hi]
    obtain ⟨q1, q2⟩ := hy _ (List.getElem_mem hi)
    obtain ⟨us, hus⟩ : ∃ us, Y.map Prod.fst = us := ⟨_, rfl⟩
    have hul : us.length = Y.length := by rw [← hus, List.length_map]
    have e1 : us.getD i zq = Y[i].1 := by rw [← hus]; simp [List.getD, hi]
    rw [hus] at htake
    have hc : ∀ j, j < 2 → w.cell? ⟨g, 0 + i * 2 + j, none⟩ = ([.int .i64 Y[i].1.1, slq Y[i].1] : List Value)[j]? := fun j hj => by
      have h7 := gq_at us i j (by omega) hj
      rw [e1] at h7
      rw [cell_of_row w g _ cur 34 (0, 0) hg, Nat.zero_add, ← h7, ← htake, List.getElem?_take, if_pos (show i * 2 + j < Y.length * 2 by omega)]
      simp
    rw [e2, ← q1]
    exact ⟨hc 0 (by decide), slq Y[i].1, hc 1 (by decide), q2.1⟩
section
variable {w w' : World} {K K' J J' G : Nat → Prop} {b : Nat} {t : Tk} {Y : Ys} {vL : Value}
/-- What lies in a row of batches. -/
theorem yq_at {a : Option Addr} {c n k : Nat} {y : Bq × Bt} (h : OwQ w (.slice a n c) (Y.map Prod.fst)) (hk : Y[k]? = some y) : ∃ g, a = some ⟨g, 0, none⟩ ∧ n = Y.length ∧ n ≤ c ∧ w.cell? ⟨g, k * 2, none⟩ = some (.int .i64 y.1.1) ∧ w.cell? ⟨g, k * 2 + 1, none⟩ = some (slq y.1) := by
  obtain ⟨hk', rfl⟩ := List.getElem?_eq_some_iff.1 hk
  unfold OwQ at h
  rw [List.length_map] at h
  rcases h.2 with ⟨h4, h5⟩ | ⟨g, cap, cur, h4, _, hg, hnc, _, hcs, htake⟩
  · omega
  · simp only [Value.slice.injEq] at h4
    obtain ⟨rfl, rfl, rfl⟩ := h4
    obtain ⟨us, hus⟩ : ∃ us, Y.map Prod.fst = us := ⟨_, rfl⟩
    have hul : us.length = Y.length := by rw [← hus, List.length_map]
    have e1 : us.getD k zq = Y[k].1 := by rw [← hus]; simp [List.getD, hk']
    rw [hus] at htake
    have hc : ∀ j, j < 2 → w.cell? ⟨g, k * 2 + j, none⟩ = ([.int .i64 Y[k].1.1, slq Y[k].1] : List Value)[j]? := fun j hj => by
      have h7 := gq_at us k j (by omega) hj
      rw [e1] at h7
      rw [cell_of_row w g _ cur 34 (0, 0) hg, ← h7, ← htake, List.getElem?_take, if_pos (show k * 2 + j < Y.length * 2 by omega)]
      simp
    exact ⟨g, rfl, rfl, hnc, hc 0 (by decide), hc 1 (by decide)⟩
/-- The reference's taker: K its own blocks, J those of the objects that it holds. -/
structure TZ (w : World) (K J : Nat → Prop) (b : Nat) (t : Tk) (Y : Ys) (vL : Value) : Prop where
  lt : ∀ k, K k → k < w.heap.size
  jt : ∀ k, J k → k < w.heap.size
  fb : K b
  hp : w.heap[b]? = some (.cells #[.int .i64 t.nx, vL] 28)
  ow : OwQ w vL (Y.map Prod.fst)
  of : ∀ g, vL.ownBlock = some g → K g
  yk : YOk w J Y
  jk : ∀ k, J k → ¬ K k
theorem TZ.bt (h : TZ w K J b t Y vL) : BlkT w b 28 := ⟨_, _, h.hp⟩
theorem TZ.keep (h : TZ w K J b t Y vL) (hc : Chg G w w') (hG : ∀ k, K k → ¬ G k) (hJ : ∀ k, J k → ¬ G k) : TZ w' K J b t Y vL :=
  ⟨fun k hk => Nat.lt_of_lt_of_le (h.lt k hk) hc.size, fun k hk => Nat.lt_of_lt_of_le (h.jt k hk) hc.size, h.fb, (hc.block b (h.lt b h.fb) (hG b h.fb)).trans h.hp, own_chg h.ow hc (fun g hg => hG g (h.of g hg)), h.of, h.yk.chg hc (fun k hk => hJ k hk), h.jk⟩
theorem TZ.below (h : TZ w K J b t Y vL) (hb : Below w.heap.size w w') : TZ w' K J b t Y vL := h.keep (G := fun _ => False) (chg0 hb) (fun _ _ g => g) (fun _ _ g => g)
theorem TZ.mono (h : TZ w K J b t Y vL) (hF : ∀ k, K k → K' k) (hl : ∀ k, K' k → k < w.heap.size) (hF2 : ∀ k, J k → J' k) (hl2 : ∀ k, J' k → k < w.heap.size) (hjk : ∀ k, J' k → ¬ K' k) : TZ w K' J' b t Y vL :=
  ⟨hl, hl2, hF b h.fb, h.hp, h.ow, fun g hg => hF g (h.of g hg), h.yk.mono hF2, hjk⟩
theorem TZ.cells (h : TZ w K J b t Y vL) : w.cell? ⟨b, 0, none⟩ = some (.int .i64 t.nx) ∧ w.cell? ⟨b, 1, none⟩ = some vL ∧ ∀ j, w.frozen? ⟨b, j, none⟩ = false := by
  refine ⟨?_, ?_, fun j => by simp [World.frozen?, h.hp]⟩ <;> simp [World.cell?, h.hp]
theorem TZ.form (h : TZ w K J b t Y vL) : ∃ a c, vL = .slice a Y.length c := by
  obtain ⟨a, c, e⟩ := own_form h.ow
  exact ⟨a, c, by rw [e, List.length_map]⟩
theorem TZ.bts (h : TZ w K J b t Y vL) : Bts w vL (Y.map Prod.snd) := yk_bts h.ow h.yk
theorem TZ.nset (h : TZ w K J b t Y vL) (n : Int) : TZ (w.setCell ⟨b, 0, none⟩ (.int .i64 n)) K J b { t with nx := n } Y vL := by
  have hc : Chg (fun k => k = b) w (w.setCell ⟨b, 0, none⟩ (.int .i64 n)) := chg_pt _ _ _ _
  refine ⟨fun k hk => by have := h.lt k hk; simpa [World.setCell] using this, fun k hk => by have := h.jt k hk; simpa [World.setCell] using this, h.fb, ?_, own_chg h.ow hc (fun g hg e => ?_), h.of, h.yk.chg hc (fun k hk e => h.jk k hk (by rw [show k = b from e]; exact h.fb)), h.jk⟩
  · rw [heap_setCell_same w b 0 _ 28 _ h.hp]; rfl
  · subst e; exact (own_blk h.ow hg).ne h.bt (by decide) rfl
/-- Another row of what is held: laid down in its elder block, or elsewhere. -/
theorem TZ.lset (h : TZ w K J b t Y vL) (hc : Chg (fun k => vL.ownBlock = some k) w w') {vL' : Value} {Y' : Ys} (ho : OwQ w' vL' (Y'.map Prod.fst)) (hv : ∀ g, vL'.ownBlock = some g → K g ∨ w.heap.size ≤ g) (hy : YOk w J Y') :
    TZ (w'.setCell ⟨b, 1, none⟩ vL') (FN K w w') J b t Y' vL' := by
  have hb : ¬ vL.ownBlock = some b := fun e => (own_blk h.ow e).ne h.bt (by decide) rfl
  have hp' : w'.heap[b]? = some (.cells #[.int .i64 t.nx, vL] 28) := (hc.block b (h.lt b h.fb) hb).trans h.hp
  have hc2 : Chg (fun k => k = b) w' (w'.setCell ⟨b, 1, none⟩ vL') := chg_pt _ _ _ _
  have hbt : BlkT w' b 28 := ⟨_, _, hp'⟩
  have hs : (w'.setCell ⟨b, 1, none⟩ vL').heap.size = w'.heap.size := by simp [World.setCell]
  have hj : ∀ k, J k → ¬ FN K w w' k := fun k hk hf => hf.elim (h.jk k hk) (fun e => by have := h.jt k hk; omega)
  refine ⟨fun k hk => by rw [hs]; exact FN.lt h.lt hc.size k hk, fun k hk => by rw [hs]; exact Nat.lt_of_lt_of_le (h.jt k hk) hc.size, .inl h.fb, ?_, own_chg ho hc2 (fun g hg e => ?_), fun g hg => ?_, (hy.chg hc (fun k hk e => h.jk k hk (h.of k e))).chg hc2 (fun k hk e => h.jk k hk (by rw [show k = b from e]; exact h.fb)), hj⟩
  · rw [heap_setCell_same w' b 1 _ 28 _ hp']; rfl
  · subst e; exact (own_blk ho hg).ne hbt (by decide) rfl
  · exact (hv g hg).elim (fun h2 => .inl h2) (fun h2 => .inr ⟨h2, (World.ownsRow.lt ho g hg).2⟩)
/-- Where n is among those that are held; -1 where it is not. -/
def plI (H : List Bt) (n : Int) : Int := match H.findIdx? (fun h => h.1 == n) with
  | none => -1
  | some i => (i : Int)
theorem plI_no {H : List Bt} {n : Int} (h : ∀ i, i < H.length → (H.getD i zb).1 ≠ n) : plI H n = -1 := by
  have e : H.findIdx? (fun h => h.1 == n) = none := by
    rw [List.findIdx?_eq_none_iff]
    intro x hx
    obtain ⟨i, hi, rfl⟩ := List.mem_iff_getElem.1 hx
    have := h i hi
    simpa [List.getD, hi] using this
  unfold plI
  rw [e]
theorem plI_at {H : List Bt} {n : Int} {k : Nat} (hk : k < H.length) (he : (H.getD k zb).1 = n) (h : ∀ i, i < k → (H.getD i zb).1 ≠ n) : plI H n = (k : Int) := by
  have e : H.findIdx? (fun h => h.1 == n) = some k := by
    rw [List.findIdx?_eq_some_iff_getElem]
    refine ⟨hk, by simpa [List.getD, hk] using he, fun j hj => ?_⟩
    have := h j hj
    simpa [List.getD, Nat.lt_trans hj hk] using this
  unfold plI
  rw [e]
set_option maxHeartbeats 8000000 in
theorem xplace_any (n : Int) (h : TZ w K J b t Y vL) (hl : Y.length ≤ 1000) :
    Calls Tryz.prog 29 #[.pointer (some ⟨b, 0, none⟩), .int .i64 n] w fun e w' => e = .returned (.int .i64 (plI (Y.map Prod.snd) n)) ∧ Below w.heap.size w w' := by
  obtain ⟨a, c, rfl⟩ := h.form
  have HX0 := Lib.hid h
  have HL := Lib.hid hl
  obtain ⟨H, hH⟩ : ∃ H, Y.map Prod.snd = H := ⟨_, rfl⟩
  have HH := Lib.hid hH
  have HHL : Hid (H.length = Y.length) := by rw [← hH]; exact List.length_map ..
  rw [hH]
  clear hH h hl
  go_enter Tryz.func29, Tryz.ntmps29
  go_wp2_with fail
  go_loopw [5] (fun iv wr => ∃ (k : Nat), k ≤ Y.length ∧ iv = .int .i64 k ∧ Hid (∀ i, i < k → (H.getD i zb).1 ≠ n) ∧ Hid (Below w.heap.size w wr)) (fun i _ => Y.length - (intOf i).toNat)
  case atStart => exact ⟨0, Nat.zero_le _, rfl, fun i hi => absurd hi (Nat.not_lt_zero i), Below.refl _ _⟩
  case round =>
    obtain ⟨k, hk, rfl, HN, HB⟩ := hrel
    have hx := HX0.out.below HB.out
    obtain ⟨c0, c1, cf⟩ := hx.cells
    have hkl := HL.out
    by_cases hlt : k < Y.length
    · obtain ⟨y, hy⟩ : ∃ y, Y[k]? = some y := ⟨Y[k], List.getElem?_eq_getElem hlt⟩
      obtain ⟨g, rfl, -, hnc, q0, -⟩ := yq_at hx.ow hy
      have hyn := (hx.yk y (List.mem_of_getElem? hy)).1
      have he : (H.getD k zb).1 = y.1.1 := by
        rw [hyn, ← HH.out, List.getD_eq_getElem?_getD, List.getElem?_map, hy]
        rfl
      have HE := Lib.hid he
      have hltz : (k : Int) < Y.length := by omega
      by_cases hq : y.1.1 = n
      · have hd : (y.1.1 == n) = true := by rw [hq]; exact beq_self_eq_true n
        have hp : plI H n = (k : Int) := plI_at (by rw [HHL.out]; exact hlt) (he.trans hq) HN.out
        have HP := Lib.hid hp
        clear hx c0 cf hy hyn he hp
        go_wp2_with fail
        go_ret
        exact ⟨by rw [HP.out]; rfl, HB.out⟩
      · have hd : (y.1.1 == n) = false := by simpa using hq
        clear hx c0 cf hy hyn he
        go_wp2_with fail
        go_roundw
        case measure => simp [intOf]; omega
        case rel =>
          refine ⟨k + 1, by omega, rfl, fun i hi => ?_, HB.out⟩
          by_cases hik : i = k
          · subst hik; rw [HE.out]; exact hq
          · exact HN.out i (by omega)
    · obtain rfl : k = Y.length := by omega
      have hp : plI H n = -1 := plI_no (fun i hi => HN.out i (by rw [← HHL.out]; exact hi))
      have HP := Lib.hid hp
      have hltz : ¬ (Y.length : Int) < Y.length := by omega
      clear hx c0 cf hp
      go_wp2_with fail
      go_ret
      exact ⟨by rw [HP.out]; rfl, HB.out⟩
end
end Go.Proofs.YtfiaghfaijlfjaaGreat

namespace Go.Proofs.YtfiaghfaijlfjaaGreat
set_option maxRecDepth 100000
open Go.RowKit

theorem left_any (a : Int) (w : World) : Calls Tryz.prog 54 #[.int .i64 a] w fun e w' => e = .returned (.int .i64 (left a)) ∧ w = w' := by
  have h1 : -65536 < a.tmod 65536 ∧ a.tmod 65536 < 65536 := by
    rcases Int.lt_or_le a 0 with h | h
    · have := Int.neg_tmod (-a) 65536
      have h2 := Int.tmod_eq_emod_of_nonneg (a := -a) (b := 65536) (by omega)
      rw [Int.neg_neg] at this
      omega
    · rw [Int.tmod_eq_emod_of_nonneg h]; omega
  have h2 : left a = if a.tmod 65536 < 0 then a.tmod 65536 + 65536 else a.tmod 65536 := by
    have h3 := Int.mul_tdiv_add_tmod a 65536
    unfold left
    generalize a.tmod 65536 = m at *
    generalize a.tdiv 65536 = q at *
    split <;> omega
  rw [h2]
  clear h2
  by_cases hm : a.tmod 65536 < 0
  · rw [if_pos hm]
    go_enter Tryz.func54, Tryz.ntmps54
    go_wp2
    go_ret
    exact ⟨rfl, rfl⟩
  · rw [if_neg hm]
    have hm' : decide (a.tmod 65536 < 0) = false := decide_eq_false hm
    go_enter Tryz.func54, Tryz.ntmps54
    go_wp2
    go_ret
    exact ⟨rfl, rfl⟩

def st (f n : Int) (L : List Int) (k : Nat) : List Int × Bool := (L.take k).foldl (stepI f n) ([], false)
theorem st_zero (f n : Int) (L : List Int) : st f n L 0 = ([], false) := rfl
theorem st_succ (f n : Int) (L : List Int) (k : Nat) (h : k < L.length) : st f n L (k + 1) = stepI f n (st f n L k) (L.getD k 0) := by
  unfold st
  rw [List.take_succ_eq_append_getElem h, List.foldl_append]
  simp [List.getD, h]
theorem st_all (f n : Int) (L : List Int) : fin n (st f n L L.length) = insF f n L := by unfold st insF; rw [List.take_length]
theorem stepI_len (f n : Int) (p : List Int × Bool) (y : Int) : (stepI f n p y).1.length ≤ p.1.length + 2 := by
  unfold stepI
  simp only
  split <;> split <;> simp
theorem st_len (f n : Int) (L : List Int) (k : Nat) (h : k ≤ L.length) : (st f n L k).1.length ≤ 2 * k := by
  induction k with
  | zero => simp [st_zero]
  | succ k ih =>
    have := stepI_len f n (st f n L k) (L.getD k 0)
    rw [← st_succ f n L k (by omega)] at this
    have := ih (by omega)
    omega
theorem step_tt (f n : Int) (m : List Int) (y : Int) (h : y = n) : stepI f n (m, true) y = (m, true) := by simp [stepI, h]
theorem step_tf (f n : Int) (m : List Int) (y : Int) (h : ¬ y = n) : stepI f n (m, true) y = (m ++ [y], true) := by simp [stepI, h]
theorem step_ft (f n : Int) (m : List Int) (y : Int) (_ : far f n ≤ far f y) (h : y = n) : stepI f n (m, false) y = (m ++ [n], true) := by simp [stepI, h]
theorem step_ff (f n : Int) (m : List Int) (y : Int) (h0 : far f n ≤ far f y) (h : ¬ y = n) : stepI f n (m, false) y = (m ++ [n] ++ [y], true) := by simp [stepI, h, h0]
theorem step_gt (f n : Int) (m : List Int) (y : Int) (h0 : ¬ far f n ≤ far f y) : stepI f n (m, false) y = (m ++ [y], false) := by
  have h : ¬ y = n := fun e => h0 (by rw [e]; exact Int.le_refl _)
  simp [stepI, h, h0]

theorem Zs_nil (w : World) : Zs w (.slice none 0 0) [] := ⟨by simp, .inl ⟨none, 0, rfl, fun _ => rfl, rfl⟩⟩
theorem lit1 (w : World) (a : Int) : Zs (w.alloc (.cells #[.int .i64 a] 3)) (.slice (some ⟨w.heap.size, 0, none⟩) 1 1) [a] := is_lit w [a] 3 _ 1 rfl rfl (by simp) _ rfl

set_option maxHeartbeats 8000000 in
theorem rsort_any (v : Value) (xs : List Int) (f : Int) (w : World) (hv : Zs w v xs) (h9 : xs.length ≤ 100) :
    Calls Tryz.prog 36 #[v, .int .i64 f] w fun e w' => ∃ u, e = .returned u ∧ Zs w' u (rsrt f xs) ∧ Below w.heap.size w w' := by
  have hlen := fun k => rsrt_len f (xs.take k)
  have hR := Lib.hid (show rsrt f xs = rsrt f xs from rfl)
  obtain ⟨a, cap, rfl, -, -, hc⟩ := Zs_open hv
  clear hv
  go_enter Tryz.func36, Tryz.ntmps36
  go_wp2_with fail
  go_loopw [5, 6] (fun v i wr => ∃ k : Nat, k ≤ xs.length ∧ i = .int .i64 k ∧ Zs wr v (rsrt f (xs.take k)) ∧ Below w.heap.size w wr) (fun _ i _ => xs.length - (intOf i).toNat)
  case atStart => exact ⟨0, Nat.zero_le _, rfl, Zs_nil _, Below.refl _ _⟩
  case round =>
    obtain ⟨k, hk, rfl, hout, hbel⟩ := hrel
    have HB := Lib.hid hbel
    have HO := Lib.hid hout
    by_cases hlt : k < xs.length
    · obtain ⟨b, off, rfl, hck0⟩ := hc k hlt
      have hck : wr.cell? ⟨b, off + k, none⟩ = some (.int .i64 (xs.getD k 0)) := by rw [hbel.cell (World.block_lt_of_cell? w _ hck0)]; exact hck0
      have HS := Lib.hid (rsrt_snoc f xs k hlt)
      have hL := hlen k
      simp only [List.length_take] at hL
      generalize rsrt f (xs.take k) = L at *
      have hL2 : L.length ≤ 100 := by omega
      generalize xs.getD k 0 = c at *
      have HA := Lib.hid (left_any c)
      generalize left c = n at *
      obtain ⟨a2, cap2, rfl, -, -, hc2⟩ := Zs_open hout
      clear hc hck0 hout hbel hL hlen
      go_wp2_with (go_at_call 54; refine (HA.out _).mono ?_; rintro e w1 ⟨rfl, rfl⟩)
      clear hck HA
      obtain ⟨wo, hwo⟩ : ∃ wo, wo = wr := ⟨_, rfl⟩
      subst hwo
      go_loopw [8, 9, 10] (fun m d j wq => ∃ q : Nat, q ≤ L.length ∧ j = .int .i64 q ∧ d = .bool (st f n L q).2 ∧ wq.ownsRow wo.heap.size 3 1 m (st f n L q).1.length ((st f n L q).1.map (Value.int .i64)) ∧ Below wo.heap.size wo wq) (fun _ _ j _ => L.length - (intOf j).toNat)
      case atStart => exact ⟨0, Nat.zero_le _, rfl, rfl, World.ownsRow_nil _ _ _ _, Below.refl _ _⟩
      case round =>
        obtain ⟨q, hq, rfl, rfl, hm, hb⟩ := hrel
        have OM := Lib.hid hm
        have BM := Lib.hid hb
        by_cases hq2 : q < L.length
        · obtain ⟨b2, off2, rfl, hck2⟩ := hc2 q hq2
          have SS := Lib.hid (st_succ f n L q hq2)
          have hSL := st_len f n L q hq
          have CK := Lib.hid hck2
          have hckr : wr.cell? ⟨b2, off2 + q, none⟩ = some (.int .i64 (L.getD q 0)) := by rw [hb.cell (World.block_lt_of_cell? wo _ hck2)]; exact hck2
          clear hc2 hm hb hck2
          generalize L.getD q 0 = y at *
          generalize st f n L q = p at *
          obtain ⟨M, d⟩ := p
          simp only at OM hSL
          cases d with
          | true =>
            by_cases hyn : y = n
            · subst hyn
              go_wp2_with fail
              go_roundw
              case rel =>
                rw [step_tt _ _ _ _ rfl] at SS
                exact ⟨q + 1, by omega, by go_num, by rw [SS.out], by rw [SS.out]; exact OM.out, BM.out⟩
              case measure => simp [intOf]; omega
            · have hne : (y == n) = false := by simpa using hyn
              have HY := Lib.hid hyn
              clear hyn
              go_wp2_with (at_builtin; refine appI_any rfl (.tmp 52) (.tmp 57) rfl wo.heap.size M [y] (OM.out.alloc _) (lit1 wr y) (by simp; omega) (Nat.le_trans BM.out.size (by simp)) ?_; intro v5 w5 hown5 hb5 hs5 hn5; have O5 := Lib.hid hown5; have B5 := Lib.hid ((BM.out.alloc BM.out.size _).trans hb5); clear hown5 hb5 hs5 hn5)
              go_roundw
              case rel =>
                rw [step_tf _ _ _ _ HY.out] at SS
                exact ⟨q + 1, by omega, by go_num, by rw [SS.out], by rw [SS.out]; exact O5.out, B5.out⟩
              case measure => simp [intOf]; omega
          | false =>
            have FY := Lib.hid (rfar_any f y)
            have FN := Lib.hid (rfar_any f n)
            have H0 := Lib.hid (fun h => step_gt f n M y h)
            have H1 := Lib.hid (fun h h' => step_ft f n M y h h')
            have H2 := Lib.hid (fun h h' => step_ff f n M y h h')
            have HE := Lib.hid (fun h : ¬ far f n ≤ far f y => show ¬ y = n from fun e => h (by rw [e]; exact Int.le_refl _))
            generalize far f y = fy at *
            generalize far f n = fn at *
            by_cases hle : fn ≤ fy
            · by_cases hyn : y = n
              · subst hyn
                have E := Lib.hid (H1.out hle rfl)
                clear H0 H1 H2 HE
                go_wp2_with fail
                refine (FY.out _).mono ?_
                rintro e w3 ⟨rfl, rfl⟩
                go_wp2_with fail
                refine (FN.out _).mono ?_
                rintro e w4 ⟨rfl, rfl⟩
                go_wp2_with (at_builtin; refine appI_any rfl (.tmp 42) (.tmp 44) rfl wo.heap.size M [y] (OM.out.alloc _) (lit1 wr y) (by simp; omega) (Nat.le_trans BM.out.size (by simp)) ?_; intro v5 w5 hown5 hb5 hs5 hn5; have O5 := Lib.hid hown5; have B5 := Lib.hid ((BM.out.alloc BM.out.size _).trans hb5); have hck5 : w5.cell? ⟨b2, off2 + q, none⟩ = some (.int .i64 y) := (B5.out.cell (World.block_lt_of_cell? wo _ CK.out)).trans CK.out; clear hown5 hb5 hs5 hn5)
                go_roundw
                case rel =>
                  rw [E.out] at SS
                  exact ⟨q + 1, by omega, by go_num, by rw [SS.out], by rw [SS.out]; exact O5.out, B5.out⟩
                case measure => simp [intOf]; omega
              · have E := Lib.hid (H2.out hle hyn)
                have hne : (y == n) = false := by simpa using hyn
                clear H0 H1 H2 HE hyn
                go_wp2_with fail
                refine (FY.out _).mono ?_
                rintro e w3 ⟨rfl, rfl⟩
                go_wp2_with fail
                refine (FN.out _).mono ?_
                rintro e w4 ⟨rfl, rfl⟩
                go_wp2_with (first
                  | (at_builtin; refine appI_any rfl (.tmp 42) (.tmp 44) rfl wo.heap.size M [n] (OM.out.alloc _) (lit1 wr n) (by simp; omega) (Nat.le_trans BM.out.size (by simp)) ?_; intro v5 w5 hown5 hb5 hs5 hn5; have O5 := Lib.hid hown5; have B5 := Lib.hid ((BM.out.alloc BM.out.size _).trans hb5); have hck5 : w5.cell? ⟨b2, off2 + q, none⟩ = some (.int .i64 y) := (B5.out.cell (World.block_lt_of_cell? wo _ CK.out)).trans CK.out; clear hown5 hb5 hs5 hn5)
                  | (at_builtin; refine appI_any rfl (.tmp 52) (.tmp 57) rfl wo.heap.size (M ++ [n]) [y] (O5.out.alloc _) (lit1 w5 y) (by simp; omega) (Nat.le_trans B5.out.size (by simp)) ?_; intro v6 w6 hown6 hb6 hs6 hn6; have O6 := Lib.hid hown6; have B6 := Lib.hid ((B5.out.alloc B5.out.size _).trans hb6); clear hown6 hb6 hs6 hn6))
                go_roundw
                case rel =>
                  rw [E.out] at SS
                  exact ⟨q + 1, by omega, by go_num, by rw [SS.out], by rw [SS.out]; exact O6.out, B6.out⟩
                case measure => simp [intOf]; omega
            · have E := Lib.hid (H0.out hle)
              have hne : (y == n) = false := by simpa using HE.out hle
              have hle' : decide (fn ≤ fy) = false := decide_eq_false hle
              clear H0 H1 H2 HE
              go_wp2_with fail
              refine (FY.out _).mono ?_
              rintro e w3 ⟨rfl, rfl⟩
              go_wp2_with fail
              refine (FN.out _).mono ?_
              rintro e w4 ⟨rfl, rfl⟩
              go_wp2_with (at_builtin; refine appI_any rfl (.tmp 52) (.tmp 57) rfl wo.heap.size M [y] (OM.out.alloc _) (lit1 wr y) (by simp; omega) (Nat.le_trans BM.out.size (by simp)) ?_; intro v5 w5 hown5 hb5 hs5 hn5; have O5 := Lib.hid hown5; have B5 := Lib.hid ((BM.out.alloc BM.out.size _).trans hb5); clear hown5 hb5 hs5 hn5)
              go_roundw
              case rel =>
                rw [E.out] at SS
                exact ⟨q + 1, by omega, by go_num, by rw [SS.out], by rw [SS.out]; exact O5.out, B5.out⟩
              case measure => simp [intOf]; omega
        · obtain rfl : q = L.length := by omega
          have SA := Lib.hid (st_all f n L)
          have hSL := st_len f n L L.length (Nat.le_refl _)
          clear hc2 hm hb
          generalize st f n L L.length = p at *
          obtain ⟨M, d⟩ := p
          simp only at OM hSL
          cases d with
          | true =>
            have SA' : insF f n L = M := SA.out.symm
            have HS' := Lib.hid (HS.out.trans SA')
            clear HS SA SA'
            go_wp2_with fail
            go_roundw
            case rel => exact ⟨k + 1, by omega, by go_num, by rw [HS'.out]; exact Zs_of_own OM.out (by omega), HB.out.trans (BM.out.mono HB.out.size)⟩
            case measure => simp [intOf]; omega
          | false =>
            have SA' : insF f n L = M ++ [n] := SA.out.symm
            have HS' := Lib.hid (HS.out.trans SA')
            clear HS SA SA'
            go_wp2_with (at_builtin; refine appI_any rfl (.tmp 61) (.tmp 63) rfl wo.heap.size M [n] (OM.out.alloc _) (lit1 wr n) (by simp; omega) (Nat.le_trans BM.out.size (by simp)) ?_; intro v5 w5 hown5 hb5 hs5 hn5; have O5 := Lib.hid hown5; have B5 := Lib.hid ((BM.out.alloc BM.out.size _).trans hb5); clear hown5 hb5 hs5 hn5)
            go_roundw
            case rel => exact ⟨k + 1, by omega, by go_num, by rw [HS'.out]; exact Zs_of_own O5.out (by simp; omega), HB.out.trans (B5.out.mono HB.out.size)⟩
            case measure => simp [intOf]; omega
    · obtain rfl : k = xs.length := by omega
      rw [List.take_length] at HO
      obtain ⟨a2, cap2, rfl, -, -, -⟩ := Zs_open HO.out
      clear hc hout hbel
      go_wp2_with fail
      go_ret
      exact ⟨_, rfl, HO.out, HB.out⟩
end Go.Proofs.YtfiaghfaijlfjaaGreat

namespace Go.Proofs.YtfiaghfaijlfjaaGreat
set_option maxRecDepth 100000
set_option linter.unusedVariables false
open Go.RowKit

section
variable {w : World} {K J : Nat → Prop} {b : Nat} {t : Tk} {Y : Ys} {vL : Value}
set_option maxHeartbeats 8000000 in
theorem xheld_any (h : TZ w K J b t Y vL) (hl : Y.length ≤ 100) :
    Calls Tryz.prog 14 #[.pointer (some ⟨b, 0, none⟩)] w fun e w' => ∃ u, e = .returned u ∧ Zs w' u (rsrt t.nx (nums (Y.map Prod.snd))) ∧ Below w.heap.size w w' := by
  obtain ⟨a, c, rfl⟩ := h.form
  have HX0 := Lib.hid h
  have HL := Lib.hid hl
  obtain ⟨L, hL⟩ : ∃ L, nums (Y.map Prod.snd) = L := ⟨_, rfl⟩
  have HH := Lib.hid hL
  have HHL : Hid (L.length = Y.length) := by show _ = _; rw [← hL]; unfold nums; rw [List.length_map, List.length_map]
  rw [hL]
  clear hL h hl
  go_enter Tryz.func14, Tryz.ntmps14
  go_wp2_with fail
  go_loopw [3, 4] (fun v i wr => ∃ (k : Nat), k ≤ Y.length ∧ i = .int .i64 k ∧ Hid (wr.ownsRow w.heap.size 3 1 v (L.take k).length ((L.take k).map (Value.int .i64))) ∧ Hid (Below w.heap.size w wr)) (fun _ i _ => Y.length - (intOf i).toNat)
  case atStart => exact ⟨0, Nat.zero_le _, rfl, World.ownsRow_nil _ _ _ _, Below.refl _ _⟩
  case round =>
    obtain ⟨k, hk, rfl, OM, HB⟩ := hrel
    have hx := HX0.out.below HB.out
    obtain ⟨c0, c1, cf⟩ := hx.cells
    have hkl := HL.out
    by_cases hlt : k < Y.length
    · obtain ⟨y, hy⟩ : ∃ y, Y[k]? = some y := ⟨Y[k], List.getElem?_eq_getElem hlt⟩
      obtain ⟨g, rfl, -, hnc, q0, -⟩ := yq_at hx.ow hy
      have hyn := (hx.yk y (List.mem_of_getElem? hy)).1
      have hkL : k < L.length := by rw [HHL.out]; exact hlt
      have he : L.take (k + 1) = L.take k ++ [y.1.1] := by
        rw [List.take_succ_eq_append_getElem hkL]
        have : L[k]? = some y.1.1 := by
          rw [← HH.out, hyn]
          unfold nums
          rw [List.getElem?_map, List.getElem?_map, hy]
          rfl
        rw [List.getElem?_eq_getElem hkL] at this
        rw [Option.some.inj this]
      have HE := Lib.hid he
      have HK : Hid ((L.take k).length + 1 ≤ 1000) := by
        show _ ≤ _
        rw [List.length_take]
        omega
      have hltz : (k : Int) < Y.length := by omega
      generalize L.take k = M at *
      generalize y.1.1 = n at *
      clear hx c0 cf hy hyn he hkL
      go_wp2_with (at_builtin; refine appI_any rfl (.tmp 14) (.tmp 23) rfl w.heap.size M [n] (OM.out.alloc _) (lit1 wr n) HK.out (Nat.le_trans HB.out.size (by simp)) ?_; intro v5 w5 hown5 hb5 hs5 hn5; have O5 := Lib.hid hown5; have B5 := Lib.hid ((HB.out.alloc HB.out.size _).trans hb5); clear hown5 hb5 hs5 hn5)
      go_roundw
      case rel => exact ⟨k + 1, by omega, by go_num, by rw [HE.out]; exact O5.out, B5.out⟩
      case measure => simp [intOf]; omega
    · obtain rfl : k = Y.length := by omega
      have hz : Zs wr u3 L := by
        have h9 := Zs_of_own OM.out (by rw [List.length_take]; have := HHL.out; omega)
        rwa [List.take_of_length_le (by rw [HHL.out]; exact Nat.le_refl _)] at h9
      have CS := Lib.hid (rsort_any u3 L t.nx wr hz (by rw [HHL.out]; exact HL.out))
      have hltz : ¬ (Y.length : Int) < Y.length := by omega
      clear hx cf hz
      go_wp2_with fail
      refine CS.out.mono ?_
      rintro e W2 ⟨u, rfl, hz, hb⟩
      have HZ := Lib.hid hz
      have HB2 := Lib.hid (HB.out.trans (hb.mono HB.out.size))
      clear hz hb CS c1
      go_wp2_with fail
      go_ret
      exact ⟨_, rfl, HZ.out, HB2.out⟩
end
end Go.Proofs.YtfiaghfaijlfjaaGreat

namespace Go.Proofs.YtfiaghfaijlfjaaGreat
set_option maxRecDepth 100000
set_option linter.unusedVariables false
open Go.RowKit

section
variable {w : World} {K J : Nat → Prop} {b : Nat} {t : Tk} {Y : Ys} {vL : Value}
set_option maxHeartbeats 4000000 in
theorem xack_any (h : TZ w K J b t Y vL) (hn : 0 ≤ t.nx ∧ t.nx ≤ 65535) (hl : Y.length ≤ 100) : Calls Tryz.prog 11 #[.pointer (some ⟨b, 0, none⟩)] w fun e w' => e = .returned (.agg #[.int .i64 0, .int .i64 0, .int .i64 t.nx, .int .i64 (mk t.nx (rsrt t.nx (nums (Y.map Prod.snd))) 16)]) ∧ Below w.heap.size w w' := by
  obtain ⟨L, hL⟩ : ∃ L, rsrt t.nx (nums (Y.map Prod.snd)) = L := ⟨_, rfl⟩
  have HSL : Hid (L.length ≤ 1000) := by
    have h1 := rsrt_len t.nx (nums (Y.map Prod.snd))
    rw [hL] at h1
    unfold nums at h1
    rw [List.length_map, List.length_map] at h1
    show _ ≤ _
    omega
  obtain ⟨M, hM⟩ : ∃ M, mk t.nx L 16 = M := ⟨_, rfl⟩
  rw [hL, hM]
  obtain ⟨W1, hW1⟩ : ∃ W1, w.alloc (.cells #[.int .i64 0, .int .i64 0, .int .i64 0, .int .i64 0] 37) = W1 := ⟨_, rfl⟩
  have hb1 : Below w.heap.size w W1 := hW1 ▸ (Below.refl _ w).alloc (Nat.le_refl _) _
  have HR1 : Hid (OwnA W1 w.heap.size (0, 0, 0, 0)) := hW1 ▸ owna_alloc w 0 0 0 0 37 w.heap.size rfl
  have HX1 := Lib.hid (h.below hb1)
  have HB1 := Lib.hid hb1
  have HN := Lib.hid hn
  have HL := Lib.hid hl
  have HMM := Lib.hid hM
  have HLL := Lib.hid hL
  have c0 := HX1.out.cells.1
  have HBL := Lib.hid (HX1.out.lt b HX1.out.fb)
  obtain ⟨g0, hg0⟩ : ∃ g0, w.heap.size = g0 := ⟨_, rfl⟩
  rw [hg0] at HR1
  have HG0 := Lib.hid hg0
  have HW1 := Lib.hid hW1
  have hn1 : W1.heap.size ≠ b := by have := HBL.out; omega
  clear h hb1 hg0 hW1 hL hM hn hl
  go_enter Tryz.func11, Tryz.ntmps11
  go_upto_region 1 with (fail)
  rw [HW1.out]
  try simp only [HG0.out]
  go_region_held (fun w' => w'.cell? ⟨b, 0, none⟩ = some (.int .i64 t.nx)) (first | exact o0 | go_keep) (first
    | (go_at_call 14; refine (xheld_any (t := t) (Y := Y) (vL := vL) (K := K) (J := J) (by first | exact HX1.out.keep (G := fun _ => False) ((Chg.refl _ W1).drew) (fun _ _ g => g) (fun _ _ g => g) | exact HX1.out.keep (G := fun _ => False) (((Chg.refl _ W1).alloc _).drew) (fun _ _ g => g) (fun _ _ g => g)) HL.out).mono ?_; rintro e w2 ⟨u, rfl, hz, hb⟩; (first | (have HB2 : Hid (Below W1.heap.size W1 w2) := bel_undrew hb) | (have HB2 : Hid (Below W1.heap.size W1 w2) := ((Below.refl _ W1).alloc (Nat.le_refl _) _).trans ((bel_undrew hb).mono (by simp)))); have o0 := (HB2.out.cell (p := ⟨b, 0, none⟩) HBL.out).trans c0; have hn2 : w2.heap.size ≠ b := (by have := HBL.out; have := HB2.out.size; omega); rw [HLL.out] at hz; have HZ2 := Lib.hid hz; have HR2 := Lib.hid (HR1.out.below HB2.out); (first | (have HA2 := Lib.hid ((owna_alloc W1 0 0 0 0 37 W1.heap.size rfl).below (bel_undrew hb))) | skip); clear hz hb)
    | (go_at_call 32; refine (rof_ok t.nx u L _ HN.out (by first | exact HZ2.out | exact Zs_below HZ2.out ((Below.refl _ _).alloc (Nat.le_refl _) _)) HSL.out).mono ?_; rintro e w5 ⟨he, hb⟩; rw [HMM.out] at he; subst he; (first | (have HB5 : Hid (Below w2.heap.size w2 w5) := hb) | (have HB5 : Hid (Below w2.heap.size w2 w5) := ((Below.refl _ w2).alloc (Nat.le_refl _) _).trans (hb.mono (by simp)))); (first | (have HA5 := Lib.hid (HA2.out.below HB5.out)) | (have HA5 := Lib.hid ((owna_alloc w2 0 0 0 0 37 w2.heap.size rfl).below hb)) | skip); have HR5 := Lib.hid (HR2.out.below HB5.out); have o0 := (HB5.out.cell (p := ⟨b, 0, none⟩) (Nat.lt_of_lt_of_le HBL.out HB2.out.size)).trans o0; have hn5 : w5.heap.size ≠ b := (by have := HBL.out; have := HB2.out.size; have := HB5.out.size; omega); (first | (obtain ⟨⟨z0, z1, z2, z3⟩, zf⟩ := HA5.out) | skip); clear hb))
  · have hV := owna_alloc w5 0 0 t.nx M 37 w5.heap.size rfl
    have hb5 : Below w5.heap.size w5 (w5.alloc (.cells #[.int .i64 0, .int .i64 0, .int .i64 t.nx, .int .i64 M] 37)) := (Below.refl _ w5).alloc (Nat.le_refl _) _
    have hr := HR5.out.below hb5
    have hbv : Below W1.heap.size W1 (w5.alloc (.cells #[.int .i64 0, .int .i64 0, .int .i64 t.nx, .int .i64 M] 37)) := (HB2.out.trans (HB5.out.mono HB2.out.size)).trans (hb5.mono (Nat.le_trans HB2.out.size HB5.out.size))
    clear hb5 HB5 HR5 o0
    generalize (w5.alloc (.cells #[.int .i64 0, .int .i64 0, .int .i64 t.nx, .int .i64 M] 37)) = V5 at *
    obtain ⟨⟨y0, y1, y2, y3⟩, yf⟩ := hV
    obtain ⟨⟨r0, r1, r2, r3⟩, rf⟩ := hr
    have HS := Lib.hid (OwnA.set (w := V5) (b := g0) (y := (0, 0, 0, 0)) ⟨⟨r0, r1, r2, r3⟩, rf⟩ 0 0 t.nx M)
    have HBF : Hid (Below w.heap.size w (put4 V5 g0 0 0 t.nx M)) := bel_put4 (HB1.out.trans (hbv.mono HB1.out.size)) (by have := HG0.out; omega) 0 0 t.nx M
    clear hbv
    go_wp2_with fail
    obtain ⟨s0_, s1_, s2_, s3_⟩ := HS.out.1
    have HBF' := HBF.out
    simp only [put4] at s0_ s1_ s2_ s3_ HBF'
    generalize (((V5.setCell ⟨g0, 0, none⟩ (.int .i64 0)).setCell ⟨g0, 1, none⟩ (.int .i64 0)).setCell ⟨g0, 2, none⟩ (.int .i64 t.nx)).setCell ⟨g0, 3, none⟩ (.int .i64 M) = W5 at *
    exact bodyPost_ret (v := .agg #[.int .i64 0, .int .i64 0, .int .i64 t.nx, .int .i64 M]) (by simp [results, Tryz.results11, go_sem, s0_, s1_, s2_, s3_]) rfl ⟨rfl, HBF'⟩
  · have hV := HA5.out.set 0 0 t.nx M
    have hr := owna_chg HR5.out (chg_put4 w5 w2.heap.size 0 0 t.nx M) (fun e => by have e' : g0 = w2.heap.size := e; have := HR1.out.lt; have := HB2.out.size; omega)
    have hbv : Below W1.heap.size W1 (put4 w5 w2.heap.size 0 0 t.nx M) := bel_put4 (HB2.out.trans (HB5.out.mono HB2.out.size)) (by have := HB2.out.size; omega) 0 0 t.nx M
    simp only [put4] at hV hr hbv
    clear HA5 HB5 HR5 o0
    generalize ((((w5.setCell ⟨w2.heap.size, 0, none⟩ (.int .i64 0)).setCell ⟨w2.heap.size, 1, none⟩ (.int .i64 0)).setCell ⟨w2.heap.size, 2, none⟩ (.int .i64 t.nx)).setCell ⟨w2.heap.size, 3, none⟩ (.int .i64 M)) = V5 at *
    obtain ⟨⟨y0, y1, y2, y3⟩, yf⟩ := hV
    obtain ⟨⟨r0, r1, r2, r3⟩, rf⟩ := hr
    have HS := Lib.hid (OwnA.set (w := V5) (b := g0) (y := (0, 0, 0, 0)) ⟨⟨r0, r1, r2, r3⟩, rf⟩ 0 0 t.nx M)
    have HBF : Hid (Below w.heap.size w (put4 V5 g0 0 0 t.nx M)) := bel_put4 (HB1.out.trans (hbv.mono HB1.out.size)) (by have := HG0.out; omega) 0 0 t.nx M
    clear hbv
    go_wp2_with fail
    obtain ⟨s0_, s1_, s2_, s3_⟩ := HS.out.1
    have HBF' := HBF.out
    simp only [put4] at s0_ s1_ s2_ s3_ HBF'
    generalize (((V5.setCell ⟨g0, 0, none⟩ (.int .i64 0)).setCell ⟨g0, 1, none⟩ (.int .i64 0)).setCell ⟨g0, 2, none⟩ (.int .i64 t.nx)).setCell ⟨g0, 3, none⟩ (.int .i64 M) = W5 at *
    exact bodyPost_ret (v := .agg #[.int .i64 0, .int .i64 0, .int .i64 t.nx, .int .i64 M]) (by simp [results, Tryz.results11, go_sem, s0_, s1_, s2_, s3_]) rfl ⟨rfl, HBF'⟩
  · have hV := HA5.out.set 0 0 t.nx M
    have hr := owna_chg HR5.out (chg_put4 w5 W1.heap.size 0 0 t.nx M) (fun e => by have e' : g0 = W1.heap.size := e; have := HR1.out.lt; have := HB2.out.size; omega)
    have hbv : Below W1.heap.size W1 (put4 w5 W1.heap.size 0 0 t.nx M) := bel_put4 (HB2.out.trans (HB5.out.mono HB2.out.size)) (by have := HB2.out.size; omega) 0 0 t.nx M
    simp only [put4] at hV hr hbv
    clear HA5 HB5 HR5 o0
    generalize ((((w5.setCell ⟨W1.heap.size, 0, none⟩ (.int .i64 0)).setCell ⟨W1.heap.size, 1, none⟩ (.int .i64 0)).setCell ⟨W1.heap.size, 2, none⟩ (.int .i64 t.nx)).setCell ⟨W1.heap.size, 3, none⟩ (.int .i64 M)) = V5 at *
    obtain ⟨⟨y0, y1, y2, y3⟩, yf⟩ := hV
    obtain ⟨⟨r0, r1, r2, r3⟩, rf⟩ := hr
    have HS := Lib.hid (OwnA.set (w := V5) (b := g0) (y := (0, 0, 0, 0)) ⟨⟨r0, r1, r2, r3⟩, rf⟩ 0 0 t.nx M)
    have HBF : Hid (Below w.heap.size w (put4 V5 g0 0 0 t.nx M)) := bel_put4 (HB1.out.trans (hbv.mono HB1.out.size)) (by have := HG0.out; omega) 0 0 t.nx M
    clear hbv
    go_wp2_with fail
    obtain ⟨s0_, s1_, s2_, s3_⟩ := HS.out.1
    have HBF' := HBF.out
    simp only [put4] at s0_ s1_ s2_ s3_ HBF'
    generalize (((V5.setCell ⟨g0, 0, none⟩ (.int .i64 0)).setCell ⟨g0, 1, none⟩ (.int .i64 0)).setCell ⟨g0, 2, none⟩ (.int .i64 t.nx)).setCell ⟨g0, 3, none⟩ (.int .i64 M) = W5 at *
    exact bodyPost_ret (v := .agg #[.int .i64 0, .int .i64 0, .int .i64 t.nx, .int .i64 M]) (by simp [results, Tryz.results11, go_sem, s0_, s1_, s2_, s3_]) rfl ⟨rfl, HBF'⟩
end
end Go.Proofs.YtfiaghfaijlfjaaGreat

namespace Go.Proofs.YtfiaghfaijlfjaaGreat
set_option maxRecDepth 100000
set_option linter.unusedVariables false
open Go.RowKit

abbrev OwQS (w : World) (S : Nat) (v : Value) (us : List Bq) : Prop := w.ownsRow S 34 2 v us.length (gflat RBT us)
theorem plI_cons (a : Bt) (H : List Bt) (n : Int) : plI (a :: H) n = if a.1 = n then 0 else if plI H n < 0 then -1 else plI H n + 1 := by
  unfold plI
  rw [List.findIdx?_cons]
  by_cases h : a.1 = n
  · rw [if_pos h]
    have : (a.1 == n) = true := by simpa using h
    rw [this]
    rfl
  · rw [if_neg h]
    have : (a.1 == n) = false := by simpa using h
    rw [this]
    cases hf : H.findIdx? fun h => h.1 == n with
    | none => simp
    | some i =>
      simp only [Bool.false_eq_true, if_false, Option.map_some]
      rw [if_neg (by omega)]
      omega
theorem pl_spec (n : Int) : ∀ H : List Bt, (findH H n = none → plI H n = -1) ∧ ∀ x, findH H n = some x → ∃ i : Nat, plI H n = i ∧ H[i]? = some x ∧ ((nums H).Nodup → H.take i ++ H.drop (i + 1) = dropH H n)
  | [] => ⟨fun _ => rfl, fun x h => (by cases h)⟩
  | a :: H => by
    obtain ⟨h1, h2⟩ := pl_spec n H
    rw [plI_cons]
    unfold findH at h1 h2 ⊢
    by_cases ha : a.1 = n
    · rw [if_pos ha, List.find?_cons_of_pos (by simpa using ha)]
      refine ⟨fun h => (by cases h), fun x hx => ?_⟩
      obtain rfl : a = x := Option.some.inj hx
      refine ⟨0, rfl, rfl, fun hnd => ?_⟩
      have hnd' : a.1 ∉ nums H ∧ (nums H).Nodup := List.nodup_cons.1 hnd
      show H = dropH (a :: H) n
      unfold dropH
      rw [List.filter_cons_of_neg (by simp [ha]), List.filter_eq_self.2]
      intro y hy
      have : y.1 ≠ n := fun e => hnd'.1 (by rw [ha, ← e]; exact List.mem_map.2 ⟨y, hy, rfl⟩)
      simpa using this
    · rw [if_neg ha, List.find?_cons_of_neg (by simpa using ha)]
      refine ⟨fun h => (by rw [h1 h]; rfl), fun x hx => ?_⟩
      obtain ⟨i, k1, k2, k3⟩ := h2 x hx
      refine ⟨i + 1, (by rw [k1, if_neg (by omega)]; rfl), k2, fun hnd => ?_⟩
      have hnd' : a.1 ∉ nums H ∧ (nums H).Nodup := List.nodup_cons.1 hnd
      show a :: (H.take i ++ H.drop (i + 1)) = _
      rw [k3 hnd'.2]
      unfold dropH
      rw [List.filter_cons_of_pos (by simpa using ha)]
theorem q_news {w : World} {b off : Nat} {us : List Bq} (hc : ∀ i, i < us.length → ∀ j, j < 2 → w.cell? ⟨b, off + i * 2 + j, none⟩ = ([.int .i64 (us.getD i zq).1, slq (us.getD i zq)] : List Value)[j]?) : ∀ j u, (gflat RBT us)[j]? = some u → w.cell? ((⟨b, off, none⟩ : Addr).add j) = some u := by
  intro j u h
  have hlen : (gflat RBT us).length = us.length * 2 := gflat_len RBT us
  have hj : j < us.length * 2 := by
    have := (List.getElem?_eq_some_iff.1 h).1
    omega
  have hadd : (⟨b, off, none⟩ : Addr).add j = ⟨b, off + j, none⟩ := by unfold Addr.add; split <;> simp_all
  have hd : j = (j / 2) * 2 + j % 2 := by omega
  rw [hadd]
  have h1 := hc (j / 2) (by omega) (j % 2) (by omega)
  rw [show off + j / 2 * 2 + j % 2 = off + j by omega] at h1
  rw [h1, ← gq_at us (j / 2) (j % 2) (by omega) (by omega), ← hd]
  exact h
/-- A part of a row of batches. -/
def QsR (w : World) (u : Value) (us : List Bq) : Prop := (us = [] ∧ ∃ a c, u = .slice a 0 c ∧ (a = none → c = 0)) ∨ ∃ b off c, u = .slice (some ⟨b, off, none⟩) us.length c ∧ ∀ i, i < us.length → ∀ j, j < 2 → w.cell? ⟨b, off + i * 2 + j, none⟩ = ([.int .i64 (us.getD i zq).1, slq (us.getD i zq)] : List Value)[j]?
theorem run_qs (w : World) (S : Nat) (v : Value) (xs : List Bq) (hown : OwQS w S v xs) (u : Value) (ys : List Bq) (hu : QsR w u ys) (hl : xs.length + ys.length ≤ 3000) (hS : S ≤ w.heap.size) {ty : TypeId} :
    ∃ r w', (Builtin.append_ #[22, 22] ty #[v, u]).run Tryz.prog w = .ok r w' ∧ OwQS w' S r (xs ++ ys) ∧ w.grownBy w' v.ownBlock ∧ (∀ g, r.ownBlock = some g → v.ownBlock = some g ∨ w.heap.size ≤ g) := by
  obtain ⟨i0, hi, hz0, hz1, hz2⟩ := info_parts infoBT
  have e : gflat RBT (xs ++ ys) = gflat RBT xs ++ gflat RBT ys := gflat_app RBT xs ys
  have e2 : (xs ++ ys).length = xs.length + ys.length := by simp
  have hfy : (gflat RBT ys).length = ys.length * 2 := gflat_len RBT ys
  have hone : ∀ q ∈ gflat RBT ys, q.oneCell' = true := gflat_ones RBT ys
  have go : ∀ (a : Addr) (c : Nat), (∀ j q, (gflat RBT ys)[j]? = some q → w.cell? (a.add j) = some q) →
      ∃ r w', (Builtin.append_ #[22, 22] ty #[v, .slice (some a) ys.length c]).run Tryz.prog w = .ok r w' ∧ OwQS w' S r (xs ++ ys) ∧ w.grownBy w' v.ownBlock ∧ (∀ g, r.ownBlock = some g → v.ownBlock = some g ∨ w.heap.size ≤ g) := by
    intro a c hnews
    obtain ⟨v', w', hr, h2, h3, _, h5⟩ := run_append_own_at (P := Tryz.prog) w S 22 ty 34 i0 _ 2 32 underBS hi hz0 hz1 hz2 rfl (by decide) v xs.length (gflat RBT xs) hown a ys.length c (gflat RBT ys) hfy hnews hone (by unfold maxLen; omega) (by omega) hS
    refine ⟨v', w', hr, ?_, h3, fun g hg => ?_⟩
    · unfold OwQS
      rw [e, e2]; exact h2
    · rcases h5 with h | h
      · exact .inl (h ▸ hg)
      · rw [h] at hg
        exact .inr (by cases hg; exact Nat.le_refl _)
  rcases hu with ⟨rfl, a, cap, rfl, hc⟩ | ⟨b, off, cap, rfl, h4⟩
  · cases a with
    | none =>
      obtain rfl := hc rfl
      refine ⟨v, w, run_append_owned_none (P := Tryz.prog) (w := w) S 22 ty 34 i0 2 underBS hi v xs.length (gflat RBT xs) hown, ?_, ⟨rfl, rfl, rfl, Nat.le_refl _, fun _ _ _ => rfl⟩, fun g hg => .inl hg⟩
      rw [List.append_nil]
      exact hown
    | some a => exact go a cap (fun j q hj => by have h0 : gflat RBT ([] : List Bq) = [] := rfl; rw [h0] at hj; cases hj)
  · exact go ⟨b, off, none⟩ cap (q_news h4)
theorem own_qcells {w : World} {g n c : Nat} {us : List Bq} (h : OwQ w (.slice (some ⟨g, 0, none⟩) n c) us) : n = us.length ∧ n ≤ c ∧ ∀ i, i < us.length → ∀ j, j < 2 → w.cell? ⟨g, i * 2 + j, none⟩ = ([.int .i64 (us.getD i zq).1, slq (us.getD i zq)] : List Value)[j]? := by
  unfold OwQ at h
  rcases h.2 with ⟨h4, h5⟩ | ⟨g', cap, cur, h4, _, hg, hnc, _, hcs, htake⟩
  · cases h4
  · simp only [Value.slice.injEq, Option.some.injEq, Addr.mk.injEq, and_true] at h4
    obtain ⟨rfl, rfl, rfl⟩ := h4
    refine ⟨rfl, hnc, fun i hi j hj => ?_⟩
    rw [cell_of_row w g _ cur 34 (0, 0) hg, ← gq_at us i j hi hj, ← htake, List.getElem?_take, if_pos (show i * 2 + j < us.length * 2 by omega)]
    simp
theorem qs_pre {w : World} {g n c k : Nat} {us : List Bq} (h : OwQ w (.slice (some ⟨g, 0, none⟩) n c) us) (hk : k ≤ us.length) : QsR w (.slice (some ⟨g, 0, none⟩) k c) (us.take k) := by
  obtain ⟨_, _, hc⟩ := own_qcells h
  have hl : (us.take k).length = k := by rw [List.length_take]; omega
  refine .inr ⟨g, 0, c, by rw [hl], fun i hi j hj => ?_⟩
  rw [hl] at hi
  have := hc i (by omega) j hj
  rw [Nat.zero_add, this]
  have e : (us.take k).getD i zq = us.getD i zq := by rw [List.getD_eq_getElem?_getD, List.getD_eq_getElem?_getD, List.getElem?_take, if_pos hi]
  rw [e]
theorem qs_suf {w : World} {g n c k : Nat} {us : List Bq} (h : OwQ w (.slice (some ⟨g, 0, none⟩) n c) us) (hk : k ≤ us.length) : QsR w (.slice (if c = k then some ⟨g, 0, none⟩ else some ⟨g, k * 2, none⟩) (us.length - k) (c - k)) (us.drop k) := by
  obtain ⟨h1, h2, hc⟩ := own_qcells h
  by_cases hck : c = k
  · rw [if_pos hck]
    refine .inl ⟨List.drop_of_length_le (by omega), some ⟨g, 0, none⟩, c - k, by rw [show us.length - k = 0 by omega], fun e => by cases e⟩
  · rw [if_neg hck]
    refine .inr ⟨g, k * 2, c - k, by rw [List.length_drop], fun i hi j hj => ?_⟩
    rw [List.length_drop] at hi
    have := hc (k + i) (by omega) j hj
    rw [show k * 2 + i * 2 + j = (k + i) * 2 + j by omega, this]
    have e : (us.drop k).getD i zq = us.getD (k + i) zq := by rw [List.getD_eq_getElem?_getD, List.getD_eq_getElem?_getD, List.getElem?_drop]
    rw [e]
end Go.Proofs.YtfiaghfaijlfjaaGreat

namespace Go.Proofs.YtfiaghfaijlfjaaGreat
set_option maxRecDepth 100000
set_option linter.unusedVariables false
open Go.RowKit

theorem TZ.as {w : World} {K J : Nat → Prop} {b : Nat} {t t' : Tk} {Y : Ys} {vL : Value} (h : TZ w K J b t Y vL) (e : t'.nx = t.nx) : TZ w K J b t' Y vL :=
  ⟨h.lt, h.jt, h.fb, by rw [e]; exact h.hp, h.ow, h.of, h.yk, h.jk⟩
/-- What Take answers, and what it leaves. -/
def XRes (w w' : World) (K J : Nat → Prop) (b : Nat) (z : (List Ob × Int) × Tk) (r : Value) : Prop := OwO w' w.heap.size r z.1.1 ∧ Chg K w w' ∧ ∃ K' Y' vL', TZ w' K' J b z.2 Y' vL' ∧ Y'.map Prod.snd = z.2.H ∧ (∀ k, K' k → K k ∨ w.heap.size ≤ k) ∧ ∀ g, r.ownBlock = some g → ¬ K' g
section
variable {w : World} {K J : Nat → Prop} {b : Nat} {t : Tk} {Y : Ys} {vL0 : Value}
set_option maxHeartbeats 8000000 in
theorem xtake_any (n : Int) (aV : Option Addr) (cV : Nat) (ys : List Ob) (h : TZ w K J b t Y vL0) (hYH : Y.map Prod.snd = t.H) (hok : TkOk t) (hv : Os w (.slice aV ys.length cV) ys) (hj : ∀ a n c, Value.slice aV ys.length cV = .slice (some a) n c → ys ≠ [] → J a.block) (hl : ys.length ≤ 3000) :
    Calls Tryz.prog 8 #[.pointer (some ⟨b, 0, none⟩), .agg #[.int .i64 n, .slice aV ys.length cV]] w fun e w' => ∃ r, e = .returned (.tuple #[r, .int .i64 (takeR t (n, ys)).1.2]) ∧ XRes w w' K J b (takeR t (n, ys)) r := by
  obtain ⟨W1, hW1⟩ : ∃ W1, w.alloc (.cells #[.int .i64 n, .slice aV ys.length cV] 34) = W1 := ⟨_, rfl⟩
  obtain ⟨g0, hg0⟩ : ∃ g0, w.heap.size = g0 := ⟨_, rfl⟩
  have hb1 : Below w.heap.size w W1 := hW1 ▸ (Below.refl _ w).alloc (Nat.le_refl _) _
  have hx0 : W1.cell? ⟨g0, 0, none⟩ = some (.int .i64 n) := by rw [← hW1, ← hg0]; simp
  have hx1 : W1.cell? ⟨g0, 1, none⟩ = some (.slice aV ys.length cV) := by rw [← hW1, ← hg0]; simp
  have hgl : g0 < W1.heap.size := World.block_lt_of_cell? W1 _ hx0
  have CK := Lib.hid (right5_any n (.slice aV ys.length cV) ys W1 (hv.below hb1) hl)
  have HYL : Hid (Y.length ≤ 16) := by
    have h1 := held_le hok
    have h2 := congrArg List.length hYH
    rw [List.length_map] at h2
    show _ ≤ _
    omega
  have HX0 := Lib.hid h
  have HX1 := Lib.hid (h.below hb1)
  have HB1 := Lib.hid hb1
  have HW1 := Lib.hid hW1
  have HG0 := Lib.hid hg0
  have HV := Lib.hid hv
  have HJ := Lib.hid hj
  have HYH := Lib.hid hYH
  have HOK := Lib.hid hok
  have HXX := Lib.hid (And.intro hx0 (And.intro hx1 hgl))
  have HTR := Lib.hid (take_rf t (n, ys))
  clear h hb1 hW1 hg0 hgl hv hj hYH hok hl
  go_enter Tryz.func8, Tryz.ntmps8
  go_upto_region 1 with (fail)
  rw [HW1.out]
  try simp only [HG0.out]
  go_wp2_with fail
  refine CK.out.mono ?_
  rintro e w2 ⟨rfl, hb2⟩
  have HB2 := Lib.hid hb2
  have HB12 : Hid (Below w.heap.size w w2) := HB1.out.trans (hb2.mono HB1.out.size)
  have kc : ∀ w', Below w2.heap.size w2 w' → (w'.cell? ⟨g0, 0, none⟩ = some (.int .i64 n) ∧ w'.cell? ⟨g0, 1, none⟩ = some (.slice aV ys.length cV)) ∧ w'.cell? ⟨b, 0, none⟩ = some (.int .i64 t.nx) := fun w' hb => by
    obtain ⟨q0, q1, q2⟩ := HXX.out
    have h12 := HB2.out.trans (hb.mono HB2.out.size)
    exact ⟨⟨(h12.cell (p := ⟨g0, 0, none⟩) q2).trans q0, (h12.cell (p := ⟨g0, 1, none⟩) q2).trans q1⟩, (HX1.out.below h12).cells.1⟩
  have HKC := Lib.hid kc
  clear hb2 CK hx0 hx1
  by_cases hbt : BtOk n ys
  · have hdec : decide (BtOk n ys) = true := decide_eq_true hbt
    have HBT := Lib.hid hbt
    clear hbt
    go_upto_region 3 with (fail)
    clear hdec
    refine wp_region_typed (C := fun w' => Below w2.heap.size w2 w') (X := fun w w' => Below w.heap.size w w') (n := 93) (by kernel_rfl) (by kernel_rfl) rfl (fun w => Below.refl _ w) (Below.refl _ _).drew ?_
    refine w_is (fun w => Below.refl _ w) _ (.inl rfl) (fun ρ w hC hc hfn hf => by have e0 : ρ (.tmp 0) = _ := hf 0 (by decide); (conv => lhs; simp [execOp, go_sem, hc, e0])) ?_
    refine w_is (fun w => Below.refl _ w) _ (.inl rfl) (fun ρ w hC hc hfn hf => by have e13 : ρ (.tmp 13) = _ := hf 13 (by decide); (conv => lhs; simp [execOp, go_sem, hc, e13])) ?_
    refine w_is (fun w => Below.refl _ w) _ (.inl rfl) (fun ρ w hC hc hfn hf => by have e14 : ρ (.tmp 14) = _ := hf 14 (by decide); (conv => lhs; simp [execOp, go_sem, hc, e14])) ?_
    refine w_is (fun w => Below.refl _ w) _ (.inl rfl) (fun ρ w hC hc hfn hf => by have e15 : ρ (.tmp 15) = _ := hf 15 (by decide); (conv => lhs; simp [execOp, go_sem, hc, e15, kc w hC])) ?_
    refine w_is (fun w => Below.refl _ w) _ (.inl rfl) (fun ρ w hC hc hfn hf => by have e3 : ρ (.tmp 3) = _ := hf 3 (by decide); (conv => lhs; simp [execOp, go_sem, hc, e3])) ?_
    refine w_is (fun w => Below.refl _ w) _ (.inl rfl) (fun ρ w hC hc hfn hf => by have e17 : ρ (.tmp 17) = _ := hf 17 (by decide); (conv => lhs; simp [execOp, go_sem, hc, e17, kc w hC])) ?_
    refine w_call (Is _) (fun _ _ _ h _ => h) 28 (.inl rfl) (fun ρ w hC hc hfn hf => by have e16 : ρ (.tmp 16) = _ := hf 16 (by decide); have e18 : ρ (.tmp 18) = _ := hf 18 (by decide); exact ⟨_, by (conv => lhs; simp [execOp, resolve, invoke, go_sem, hc, hfn, e16, e18]), tc_same hC (rfar_any t.nx n w)⟩) ?_
    refine w_is (fun w => Below.refl _ w) _ (.inl rfl) (fun ρ w hC hc hfn hf => by have e19 : ρ (.tmp 19) = _ := hf 19 (by decide); (conv => lhs; simp [execOp, go_sem, hc, e19])) ?_
    intro A W4 hC hn hd hf
    have y0 : A.eval (.tmp 0) = _ := Eq.trans (hf 0) (by conv => lhs; simp [go_sem])
    have y1 : A.eval (.tmp 1) = _ := Eq.trans (hf 1) (by conv => lhs; simp [go_sem])
    have y2 : A.eval (.tmp 2) = _ := Eq.trans (hf 2) (by conv => lhs; simp [go_sem])
    have y3 : A.eval (.tmp 3) = _ := Eq.trans (hf 3) (by conv => lhs; simp [go_sem])
    have y4 : A.eval (.tmp 4) = _ := Eq.trans (hf 4) (by conv => lhs; simp [go_sem])
    have y5 : A.eval (.tmp 5) = _ := Eq.trans (hf 5) (by conv => lhs; simp [go_sem])
    have y6 : A.eval (.tmp 6) = _ := hf 6
    have y7 : A.eval (.tmp 7) = _ := Eq.trans (hf 7) (by conv => lhs; simp [go_sem])
    have y8 : A.eval (.tmp 8) = _ := Eq.trans (hf 8) (by conv => lhs; simp [go_sem])
    have y9 : A.eval (.tmp 9) = _ := Eq.trans (hf 9) (by conv => lhs; simp [go_sem])
    have y10 : A.eval (.tmp 10) = _ := Eq.trans (hf 10) (by conv => lhs; simp [go_sem])
    have y11 : A.eval (.tmp 11) = _ := Eq.trans (hf 11) (by conv => lhs; simp [go_sem])
    have y12 : A.eval (.tmp 12) = _ := Eq.trans (hf 12) (by conv => lhs; simp [go_sem])
    have y13 : A.eval (.tmp 13) = _ := hf 13
    have y14 : A.eval (.tmp 14) = _ := hf 14
    have y15 : A.eval (.tmp 15) = _ := hf 15
    have y16 : A.eval (.tmp 16) = _ := hf 16
    have y17 : A.eval (.tmp 17) = _ := hf 17
    have y18 : A.eval (.tmp 18) = _ := hf 18
    have y19 : A.eval (.tmp 19) = _ := hf 19
    have y20 : A.eval (.tmp 20) = _ := Eq.trans (hf 20) (by conv => lhs; simp [go_sem])
    have y21 : A.eval (.tmp 21) = _ := Eq.trans (hf 21) (by conv => lhs; simp [go_sem])
    have y22 : A.eval (.tmp 22) = _ := Eq.trans (hf 22) (by conv => lhs; simp [go_sem])
    have y23 : A.eval (.tmp 23) = _ := Eq.trans (hf 23) (by conv => lhs; simp [go_sem])
    have y24 : A.eval (.tmp 24) = _ := Eq.trans (hf 24) (by conv => lhs; simp [go_sem])
    have y25 : A.eval (.tmp 25) = _ := Eq.trans (hf 25) (by conv => lhs; simp [go_sem])
    have y26 : A.eval (.tmp 26) = _ := Eq.trans (hf 26) (by conv => lhs; simp [go_sem])
    have y27 : A.eval (.tmp 27) = _ := Eq.trans (hf 27) (by conv => lhs; simp [go_sem])
    have y28 : A.eval (.tmp 28) = _ := Eq.trans (hf 28) (by conv => lhs; simp [go_sem])
    have y29 : A.eval (.tmp 29) = _ := Eq.trans (hf 29) (by conv => lhs; simp [go_sem])
    have y30 : A.eval (.tmp 30) = _ := Eq.trans (hf 30) (by conv => lhs; simp [go_sem])
    have y31 : A.eval (.tmp 31) = _ := Eq.trans (hf 31) (by conv => lhs; simp [go_sem])
    have y32 : A.eval (.tmp 32) = _ := Eq.trans (hf 32) (by conv => lhs; simp [go_sem])
    have y33 : A.eval (.tmp 33) = _ := Eq.trans (hf 33) (by conv => lhs; simp [go_sem])
    have y34 : A.eval (.tmp 34) = _ := Eq.trans (hf 34) (by conv => lhs; simp [go_sem])
    have y35 : A.eval (.tmp 35) = _ := Eq.trans (hf 35) (by conv => lhs; simp [go_sem])
    have y36 : A.eval (.tmp 36) = _ := Eq.trans (hf 36) (by conv => lhs; simp [go_sem])
    have y37 : A.eval (.tmp 37) = _ := Eq.trans (hf 37) (by conv => lhs; simp [go_sem])
    have y38 : A.eval (.tmp 38) = _ := Eq.trans (hf 38) (by conv => lhs; simp [go_sem])
    have y39 : A.eval (.tmp 39) = _ := Eq.trans (hf 39) (by conv => lhs; simp [go_sem])
    have y40 : A.eval (.tmp 40) = _ := Eq.trans (hf 40) (by conv => lhs; simp [go_sem])
    have y41 : A.eval (.tmp 41) = _ := Eq.trans (hf 41) (by conv => lhs; simp [go_sem])
    have y42 : A.eval (.tmp 42) = _ := Eq.trans (hf 42) (by conv => lhs; simp [go_sem])
    have y43 : A.eval (.tmp 43) = _ := Eq.trans (hf 43) (by conv => lhs; simp [go_sem])
    have y44 : A.eval (.tmp 44) = _ := Eq.trans (hf 44) (by conv => lhs; simp [go_sem])
    have y45 : A.eval (.tmp 45) = _ := Eq.trans (hf 45) (by conv => lhs; simp [go_sem])
    have y46 : A.eval (.tmp 46) = _ := Eq.trans (hf 46) (by conv => lhs; simp [go_sem])
    have y47 : A.eval (.tmp 47) = _ := Eq.trans (hf 47) (by conv => lhs; simp [go_sem])
    have y48 : A.eval (.tmp 48) = _ := Eq.trans (hf 48) (by conv => lhs; simp [go_sem])
    have y49 : A.eval (.tmp 49) = _ := Eq.trans (hf 49) (by conv => lhs; simp [go_sem])
    have y50 : A.eval (.tmp 50) = _ := Eq.trans (hf 50) (by conv => lhs; simp [go_sem])
    have y51 : A.eval (.tmp 51) = _ := Eq.trans (hf 51) (by conv => lhs; simp [go_sem])
    have y52 : A.eval (.tmp 52) = _ := Eq.trans (hf 52) (by conv => lhs; simp [go_sem])
    have y53 : A.eval (.tmp 53) = _ := Eq.trans (hf 53) (by conv => lhs; simp [go_sem])
    have y54 : A.eval (.tmp 54) = _ := Eq.trans (hf 54) (by conv => lhs; simp [go_sem])
    have y55 : A.eval (.tmp 55) = _ := Eq.trans (hf 55) (by conv => lhs; simp [go_sem])
    have y56 : A.eval (.tmp 56) = _ := Eq.trans (hf 56) (by conv => lhs; simp [go_sem])
    have y57 : A.eval (.tmp 57) = _ := Eq.trans (hf 57) (by conv => lhs; simp [go_sem])
    have y58 : A.eval (.tmp 58) = _ := Eq.trans (hf 58) (by conv => lhs; simp [go_sem])
    have y59 : A.eval (.tmp 59) = _ := Eq.trans (hf 59) (by conv => lhs; simp [go_sem])
    have y60 : A.eval (.tmp 60) = _ := Eq.trans (hf 60) (by conv => lhs; simp [go_sem])
    have y61 : A.eval (.tmp 61) = _ := Eq.trans (hf 61) (by conv => lhs; simp [go_sem])
    have y62 : A.eval (.tmp 62) = _ := Eq.trans (hf 62) (by conv => lhs; simp [go_sem])
    have y63 : A.eval (.tmp 63) = _ := Eq.trans (hf 63) (by conv => lhs; simp [go_sem])
    have y64 : A.eval (.tmp 64) = _ := Eq.trans (hf 64) (by conv => lhs; simp [go_sem])
    have y65 : A.eval (.tmp 65) = _ := Eq.trans (hf 65) (by conv => lhs; simp [go_sem])
    have y66 : A.eval (.tmp 66) = _ := Eq.trans (hf 66) (by conv => lhs; simp [go_sem])
    have y67 : A.eval (.tmp 67) = _ := Eq.trans (hf 67) (by conv => lhs; simp [go_sem])
    have y68 : A.eval (.tmp 68) = _ := Eq.trans (hf 68) (by conv => lhs; simp [go_sem])
    have y69 : A.eval (.tmp 69) = _ := Eq.trans (hf 69) (by conv => lhs; simp [go_sem])
    have y70 : A.eval (.tmp 70) = _ := Eq.trans (hf 70) (by conv => lhs; simp [go_sem])
    have y71 : A.eval (.tmp 71) = _ := Eq.trans (hf 71) (by conv => lhs; simp [go_sem])
    have y72 : A.eval (.tmp 72) = _ := Eq.trans (hf 72) (by conv => lhs; simp [go_sem])
    have y73 : A.eval (.tmp 73) = _ := Eq.trans (hf 73) (by conv => lhs; simp [go_sem])
    have y74 : A.eval (.tmp 74) = _ := Eq.trans (hf 74) (by conv => lhs; simp [go_sem])
    have y75 : A.eval (.tmp 75) = _ := Eq.trans (hf 75) (by conv => lhs; simp [go_sem])
    have y76 : A.eval (.tmp 76) = _ := Eq.trans (hf 76) (by conv => lhs; simp [go_sem])
    have y77 : A.eval (.tmp 77) = _ := Eq.trans (hf 77) (by conv => lhs; simp [go_sem])
    have y78 : A.eval (.tmp 78) = _ := Eq.trans (hf 78) (by conv => lhs; simp [go_sem])
    have y79 : A.eval (.tmp 79) = _ := Eq.trans (hf 79) (by conv => lhs; simp [go_sem])
    have y80 : A.eval (.tmp 80) = _ := Eq.trans (hf 80) (by conv => lhs; simp [go_sem])
    have y81 : A.eval (.tmp 81) = _ := Eq.trans (hf 81) (by conv => lhs; simp [go_sem])
    have y82 : A.eval (.tmp 82) = _ := Eq.trans (hf 82) (by conv => lhs; simp [go_sem])
    have y83 : A.eval (.tmp 83) = _ := Eq.trans (hf 83) (by conv => lhs; simp [go_sem])
    have y84 : A.eval (.tmp 84) = _ := Eq.trans (hf 84) (by conv => lhs; simp [go_sem])
    have y85 : A.eval (.tmp 85) = _ := Eq.trans (hf 85) (by conv => lhs; simp [go_sem])
    have y86 : A.eval (.tmp 86) = _ := Eq.trans (hf 86) (by conv => lhs; simp [go_sem])
    have y87 : A.eval (.tmp 87) = _ := Eq.trans (hf 87) (by conv => lhs; simp [go_sem])
    have y88 : A.eval (.tmp 88) = _ := Eq.trans (hf 88) (by conv => lhs; simp [go_sem])
    have y89 : A.eval (.tmp 89) = _ := Eq.trans (hf 89) (by conv => lhs; simp [go_sem])
    have y90 : A.eval (.tmp 90) = _ := Eq.trans (hf 90) (by conv => lhs; simp [go_sem])
    have y91 : A.eval (.tmp 91) = _ := Eq.trans (hf 91) (by conv => lhs; simp [go_sem])
    have y92 : A.eval (.tmp 92) = _ := Eq.trans (hf 92) (by conv => lhs; simp [go_sem])
    clear hf
    have hA := frame_eq hn
    rw [show List.range 93 = [0, 1, 2, 3, 4, 5, 6, 7, 8, 9, 10, 11, 12, 13, 14, 15, 16, 17, 18, 19, 20, 21, 22, 23, 24, 25, 26, 27, 28, 29, 30, 31, 32, 33, 34, 35, 36, 37, 38, 39, 40, 41, 42, 43, 44, 45, 46, 47, 48, 49, 50, 51, 52, 53, 54, 55, 56, 57, 58, 59, 60, 61, 62, 63, 64, 65, 66, 67, 68, 69, 70, 71, 72, 73, 74, 75, 76, 77, 78, 79, 80, 81, 82, 83, 84, 85, 86, 87, 88, 89, 90, 91, 92] from rfl, hd] at hA
    simp only [List.map_cons, List.map_nil, y0, y1, y2, y3, y4, y5, y6, y7, y8, y9, y10, y11, y12, y13, y14, y15, y16, y17, y18, y19, y20, y21, y22, y23, y24, y25, y26, y27, y28, y29, y30, y31, y32, y33, y34, y35, y36, y37, y38, y39, y40, y41, y42, y43, y44, y45, y46, y47, y48, y49, y50, y51, y52, y53, y54, y55, y56, y57, y58, y59, y60, y61, y62, y63, y64, y65, y66, y67, y68, y69, y70, y71, y72, y73, y74, y75, y76, y77, y78, y79, y80, y81, y82, y83, y84, y85, y86, y87, y88, y89, y90, y91, y92] at hA
    clear y0 y1 y2 y3 y4 y5 y6 y7 y8 y9 y10 y11 y12 y13 y14 y15 y16 y17 y18 y19 y20 y21 y22 y23 y24 y25 y26 y27 y28 y29 y30 y31 y32 y33 y34 y35 y36 y37 y38 y39 y40 y41 y42 y43 y44 y45 y46 y47 y48 y49 y50 y51 y52 y53 y54 y55 y56 y57 y58 y59 y60 y61 y62 y63 y64 y65 y66 y67 y68 y69 y70 y71 y72 y73 y74 y75 y76 y77 y78 y79 y80 y81 y82 y83 y84 y85 y86 y87 y88 y89 y90 y91 y92
    clear hn hd
    subst hA
    have HB3 := Lib.hid hC
    have HB13 : Hid (Below w.heap.size w W4) := HB12.out.trans (hC.mono HB12.out.size)
    clear hC kc
    obtain ⟨d, hd⟩ : ∃ d, far t.nx n = d := ⟨_, rfl⟩
    rw [hd]
    have HD := Lib.hid hd
    clear hd
    by_cases h2 : 32768 ≤ d
    · have hdd : decide (32768 ≤ d) = true := decide_eq_true h2
      have HRE : Hid (rfE t (n, ys) = 10) := by show _ = _; unfold rfE; rw [if_neg (not_not_intro HBT.out), if_pos (by rw [HD.out]; exact h2)]
      have HTE : Hid ((takeR t (n, ys)).1.2 = 10 ∧ (takeR t (n, ys)).1.1 = [] ∧ (takeR t (n, ys)).2 = t) := by have h9 := HTR.out.2 (by rw [HRE.out]; decide); rw [HRE.out] at h9; rw [h9]; exact ⟨rfl, rfl, rfl⟩
      go_wp2_with fail
      exact bodyPost_ret (v := .tuple #[.slice none 0 0, .int .i64 10]) (by simp [results, Tryz.results8, go_sem]) rfl ⟨_, by rw [HTE.out.1], by rw [HTE.out.2.1]; exact OwO_nil _ _, chg0 HB13.out, K, Y, vL0, by rw [HTE.out.2.2]; exact HX0.out.below HB13.out, by rw [HTE.out.2.2]; exact HYH.out, fun k hk => .inl hk, fun g hg => (by cases hg)⟩
    · have hdd : decide (32768 ≤ d) = false := decide_eq_false h2
      by_cases h3 : 16 < d
      · have hd3 : decide (16 < d) = true := decide_eq_true h3
        have HRE : Hid (rfE t (n, ys) = 1) := by show _ = _; unfold rfE; rw [if_neg (not_not_intro HBT.out), if_neg (by rw [HD.out]; exact h2), if_pos (by rw [HD.out]; exact h3)]
        have HTE : Hid ((takeR t (n, ys)).1.2 = 1 ∧ (takeR t (n, ys)).1.1 = [] ∧ (takeR t (n, ys)).2 = t) := by have h9 := HTR.out.2 (by rw [HRE.out]; decide); rw [HRE.out] at h9; rw [h9]; exact ⟨rfl, rfl, rfl⟩
        go_wp2_with fail
        exact bodyPost_ret (v := .tuple #[.slice none 0 0, .int .i64 1]) (by simp [results, Tryz.results8, go_sem]) rfl ⟨_, by rw [HTE.out.1], by rw [HTE.out.2.1]; exact OwO_nil _ _, chg0 HB13.out, K, Y, vL0, by rw [HTE.out.2.2]; exact HX0.out.below HB13.out, by rw [HTE.out.2.2]; exact HYH.out, fun k hk => .inl hk, fun g hg => (by cases hg)⟩
      · have hd3 : decide (16 < d) = false := decide_eq_false h3
        have HN2 := Lib.hid h2
        have HN3 := Lib.hid h3
        have hx4 := HX0.out.below HB13.out
        have CP := Lib.hid (xplace_any n hx4 (by have := HYL.out; omega))
        obtain ⟨⟨y0, y1⟩, -⟩ := HKC.out W4 HB3.out
        clear h2 h3 hx4
        go_upto_region 8 with (fail)
        clear hdd hd3
        obtain ⟨hps, hpn⟩ := pl_spec n t.H
        rw [HYH.out] at CP
        cases hf : findH t.H n with
        | some x =>
          obtain ⟨i, hi, -, -⟩ := hpn x hf
          rw [hi] at CP
          have HRE : Hid (rfE t (n, ys) = 9) := by show _ = _; unfold rfE; rw [if_neg (not_not_intro HBT.out), if_neg (by rw [HD.out]; have := HN2.out; omega), if_neg (by rw [HD.out]; have := HN3.out; omega), if_pos (by rw [show findH t.H ((n, ys) : Bt).1 = findH t.H n from rfl, hf]; rfl)]
          have HTE : Hid ((takeR t (n, ys)).1.2 = 9 ∧ (takeR t (n, ys)).1.1 = [] ∧ (takeR t (n, ys)).2 = t) := by have h9 := HTR.out.2 (by rw [HRE.out]; decide); rw [HRE.out] at h9; rw [h9]; exact ⟨rfl, rfl, rfl⟩
          clear hps hpn hf hi
          go_upto_region 9 with (go_at_call 29; refine CP.out.mono ?_; rintro e w3 ⟨rfl, hb⟩; have HBX := Lib.hid (HB13.out.trans (hb.mono HB13.out.size)); clear hb)
          go_wp2_with fail
          exact bodyPost_ret (v := .tuple #[.slice none 0 0, .int .i64 9]) (by simp [results, Tryz.results8, go_sem]) rfl ⟨_, by rw [HTE.out.1], by rw [HTE.out.2.1]; exact OwO_nil _ _, chg0 HBX.out, K, Y, vL0, by rw [HTE.out.2.2]; exact HX0.out.below HBX.out, by rw [HTE.out.2.2]; exact HYH.out, fun k hk => .inl hk, fun g hg => (by cases hg)⟩
        | none =>
          rw [hps hf] at CP
          have HIN : Hid (TkIn t (n, ys)) := ⟨HBT.out, by show far t.nx n ≤ 16; rw [HD.out]; have := HN3.out; omega, hf⟩
          clear hps hpn hf
          go_upto_region 10 with (go_at_call 29; refine CP.out.mono ?_; rintro e w3 ⟨rfl, hb⟩; have HB3' := Lib.hid (HB3.out.trans (hb.mono HB3.out.size)); have HBX := Lib.hid (HB13.out.trans (hb.mono HB13.out.size)); clear hb y0 y1 CP)
          obtain ⟨aL, cL, rfl⟩ := HX0.out.form
          have hx3 := HX0.out.below HBX.out
          obtain ⟨us, hus⟩ : ∃ us, Y.map Prod.fst = us := ⟨_, rfl⟩
          have hul : us.length = Y.length := by rw [← hus, List.length_map]
          rw [← hul] at hx3
          have hq3 := hx3.ow
          rw [hus] at hq3
          have HUS := Lib.hid hus
          have HX3 := Lib.hid hx3
          have HUL := Lib.hid hul
          have OW : Hid (w3.ownsRow 0 (RBT).T (RBT).K (Value.slice aL us.length cL) us.length (gflat RBT us)) := hq3
          have HXL : Hid (us.length ≤ 3000) := by show _ ≤ _; have := HYL.out; omega
          have HSW : Hid (0 ≤ w3.heap.size) := Nat.zero_le _
          have HROW : ∀ k, (Value.slice aL us.length cL).ownBlock = some k → k < w3.heap.size := fun k hk => (World.ownsRow.lt hq3 k hk).2
          have hOb : ¬ (Value.slice aL us.length cL).ownBlock = some b := fun e => (own_blk hq3 e).ne hx3.bt (by decide) rfl
          have hOg : ¬ (Value.slice aL us.length cL).ownBlock = some g0 := fun e => by have h1 := HX0.out.lt g0 (hx3.of g0 e); have := HG0.out; omega
          have hg03 : g0 < w3.heap.size := by have := HXX.out.2.2; have := HB2.out.size; have := HB3'.out.size; omega
          have kc10 : ∀ w', Chg (fun k => (Value.slice aL us.length cL).ownBlock = some k) w3 w' → w'.cell? ⟨b, 1, none⟩ = some (.slice aL us.length cL) ∧ w'.cell? ⟨g0, 0, none⟩ = some (.int .i64 n) ∧ w'.cell? ⟨g0, 1, none⟩ = some (.slice aV ys.length cV) := fun w' h => by
            obtain ⟨⟨q0, q1⟩, -⟩ := HKC.out w3 HB3'.out
            exact ⟨(h.cell (HX3.out.lt b HX3.out.fb) hOb).trans HX3.out.cells.2.1, (h.cell hg03 hOg).trans q0, (h.cell hg03 hOg).trans q1⟩
          clear hus hul hx3 hq3
          refine T3.wp_region_tail (C := fun w' => Chg (fun k => (Value.slice aL us.length cL).ownBlock = some k) w3 w' ∧ w'.ownsRow 0 (RBT).T (RBT).K (Value.slice aL us.length cL) (us).length (gflat RBT (us))) (X := GX (Value.ownBlock (Value.slice aL us.length cL)) 7) (n := 93) 10 (by kernel_rfl) (by kernel_rfl) (by kernel_rfl) (by kernel_rfl) rfl (GX_refl _ 7) ⟨(Chg.refl _ _).drew, OW.out.drew⟩ ?_
          simp only [List.take_succ_cons, List.take_zero, List.drop_succ_cons, List.drop_zero]
          refine T3.w_is (GX_refl _ 7) rfl _ (.inl rfl) (fun ρ w hC hc hfn hf => by have e0 : ρ (.tmp 0) = _ := hf 0 (by decide); (conv => lhs; simp [execOp, go_sem, hc, e0])) ?_
          refine T3.w_is (GX_refl _ 7) rfl _ (.inl rfl) (fun ρ w hC hc hfn hf => by have e0 : ρ (.tmp 0) = _ := hf 0 (by decide); (conv => lhs; simp [execOp, go_sem, hc, e0])) ?_
          refine T3.w_is (GX_refl _ 7) rfl _ (.inl rfl) (fun ρ w hC hc hfn hf => by have e30 : ρ (.tmp 30) = _ := hf 30 (by decide); (conv => lhs; simp [execOp, go_sem, hc, e30])) ?_
          refine T3.w_is (GX_refl _ 7) rfl _ (.inl rfl) (fun ρ w hC hc hfn hf => by have e31 : ρ (.tmp 31) = _ := hf 31 (by decide); (conv => lhs; simp [execOp, go_sem, hc, e31])) ?_
          refine T3.w_is (GX_refl _ 7) rfl _ (.inl rfl) (fun ρ w hC hc hfn hf => by have e32 : ρ (.tmp 32) = _ := hf 32 (by decide); (conv => lhs; simp [execOp, go_sem, hc, e32, kc10 w hC.1])) ?_
          refine T3.w_is (GX_refl _ 7) rfl _ (.inl rfl) (fun ρ w hC hc hfn hf => by have e3 : ρ (.tmp 3) = _ := hf 3 (by decide); (conv => lhs; simp [execOp, go_sem, hc, e3, kc10 w hC.1])) ?_
          refine T3.w_make rfl (NewG (R := RBT) w3 (((n, aV, ys.length, cV) : Bq))) (NewG.keeps HROW 7 6) (.inl rfl) (fun ρ w hC hc hfn hf => by have e34 : ρ (.tmp 34) = _ := hf 34 (by decide); exact ⟨_, _, by (conv => lhs; simp [execOp, go_sem, hc, e34]); rfl, ⟨hC.1.alloc _, gown_below hC.2 ((Below.refl _ w).alloc (Nat.le_refl _) _)⟩, GX_of (by decide) ((Below.refl _ w).alloc (Nat.le_refl _) _), ⟨_, rfl, hC.1.size, gc_alloc (RBT) w (((n, aV, ys.length, cV) : Bq)) _ rfl 34⟩⟩) ?_
          refine T3.w_make rfl (NewR (RBT) w3 0 (Value.slice aL us.length cL) ((us) ++ [((n, aV, ys.length, cV) : Bq)]) ((us).length + 1)) (NewR.keeps 7) (.inl rfl) (fun ρ w hC hc hfn hf => by have e33 : ρ (.tmp 33) = _ := hf 33 (by decide); obtain ⟨bq, e35, hb1, hb2⟩ := (show NewG (R := RBT) w3 (((n, aV, ys.length, cV) : Bq)) (ρ (.tmp 35)) w from hf 35 (by decide)); obtain ⟨gq, cq, wq, hr, hq1, hq2, hq4, hq3⟩ := run_gappr (RBT) w 0 _ (us) hC.2 bq (((n, aV, ys.length, cV) : Bq)) hb2 HXL.out (Nat.le_trans HSW.out hC.1.size); exact ⟨_, wq, gexec_append rfl e33 e35 hr, ⟨hC.1.grown hq2 (fun k hk => .inl hk), hq4⟩, GX_at rfl hq2, ⟨gq, cq, rfl, hq1, hq3.imp (fun h => h) (fun h => Nat.le_trans hC.1.size h)⟩⟩) ?_
          refine T3.w_is (GX_refl _ 7) rfl _ (.inl rfl) (fun ρ w hC hc hfn hf => by have e29 : ρ (.tmp 29) = _ := hf 29 (by decide); (conv => lhs; simp [execOp, go_sem, hc, e29])) ?_
          refine T3.w_is (GX_refl _ 7) rfl _ (.inl rfl) (fun ρ w hC hc hfn hf => by have e37 : ρ (.tmp 37) = _ := hf 37 (by decide); (conv => lhs; simp [execOp, go_sem, hc, e37])) ?_
          intro A V5 hC hn hd hf
          obtain ⟨bq, y35, -, -⟩ := (show NewG (R := RBT) w3 (((n, aV, ys.length, cV) : Bq)) (A.eval (.tmp 35)) V5 from hf 35)
          obtain ⟨gq, cq, y36, OQ, HQ9⟩ := (show NewR (RBT) w3 0 (Value.slice aL us.length cL) ((us) ++ [((n, aV, ys.length, cV) : Bq)]) ((us).length + 1) (A.eval (.tmp 36)) V5 from hf 36)
          rw [y36] at OQ
          have y0 : A.eval (.tmp 0) = _ := Eq.trans (hf 0) (by conv => lhs; simp [go_sem])
          have y1 : A.eval (.tmp 1) = _ := Eq.trans (hf 1) (by conv => lhs; simp [go_sem])
          have y2 : A.eval (.tmp 2) = _ := Eq.trans (hf 2) (by conv => lhs; simp [go_sem])
          have y3 : A.eval (.tmp 3) = _ := Eq.trans (hf 3) (by conv => lhs; simp [go_sem])
          have y4 : A.eval (.tmp 4) = _ := Eq.trans (hf 4) (by conv => lhs; simp [go_sem])
          have y5 : A.eval (.tmp 5) = _ := Eq.trans (hf 5) (by conv => lhs; simp [go_sem])
          have y6 : A.eval (.tmp 6) = _ := Eq.trans (hf 6) (by conv => lhs; simp [go_sem])
          have y7 : A.eval (.tmp 7) = _ := Eq.trans (hf 7) (by conv => lhs; simp [go_sem])
          have y8 : A.eval (.tmp 8) = _ := Eq.trans (hf 8) (by conv => lhs; simp [go_sem])
          have y9 : A.eval (.tmp 9) = _ := Eq.trans (hf 9) (by conv => lhs; simp [go_sem])
          have y10 : A.eval (.tmp 10) = _ := Eq.trans (hf 10) (by conv => lhs; simp [go_sem])
          have y11 : A.eval (.tmp 11) = _ := Eq.trans (hf 11) (by conv => lhs; simp [go_sem])
          have y12 : A.eval (.tmp 12) = _ := Eq.trans (hf 12) (by conv => lhs; simp [go_sem])
          have y13 : A.eval (.tmp 13) = _ := Eq.trans (hf 13) (by conv => lhs; simp [go_sem])
          have y14 : A.eval (.tmp 14) = _ := Eq.trans (hf 14) (by conv => lhs; simp [go_sem])
          have y15 : A.eval (.tmp 15) = _ := Eq.trans (hf 15) (by conv => lhs; simp [go_sem])
          have y16 : A.eval (.tmp 16) = _ := Eq.trans (hf 16) (by conv => lhs; simp [go_sem])
          have y17 : A.eval (.tmp 17) = _ := Eq.trans (hf 17) (by conv => lhs; simp [go_sem])
          have y18 : A.eval (.tmp 18) = _ := Eq.trans (hf 18) (by conv => lhs; simp [go_sem])
          have y19 : A.eval (.tmp 19) = _ := Eq.trans (hf 19) (by conv => lhs; simp [go_sem])
          have y20 : A.eval (.tmp 20) = _ := Eq.trans (hf 20) (by conv => lhs; simp [go_sem])
          have y21 : A.eval (.tmp 21) = _ := Eq.trans (hf 21) (by conv => lhs; simp [go_sem])
          have y22 : A.eval (.tmp 22) = _ := Eq.trans (hf 22) (by conv => lhs; simp [go_sem])
          have y23 : A.eval (.tmp 23) = _ := Eq.trans (hf 23) (by conv => lhs; simp [go_sem])
          have y24 : A.eval (.tmp 24) = _ := Eq.trans (hf 24) (by conv => lhs; simp [go_sem])
          have y25 : A.eval (.tmp 25) = _ := Eq.trans (hf 25) (by conv => lhs; simp [go_sem])
          have y26 : A.eval (.tmp 26) = _ := Eq.trans (hf 26) (by conv => lhs; simp [go_sem])
          have y27 : A.eval (.tmp 27) = _ := Eq.trans (hf 27) (by conv => lhs; simp [go_sem])
          have y28 : A.eval (.tmp 28) = _ := Eq.trans (hf 28) (by conv => lhs; simp [go_sem])
          have y29 : A.eval (.tmp 29) = _ := hf 29
          have y30 : A.eval (.tmp 30) = _ := hf 30
          have y31 : A.eval (.tmp 31) = _ := hf 31
          have y32 : A.eval (.tmp 32) = _ := hf 32
          have y33 : A.eval (.tmp 33) = _ := hf 33
          have y34 : A.eval (.tmp 34) = _ := hf 34
          have y37 : A.eval (.tmp 37) = _ := hf 37
          have y38 : A.eval (.tmp 38) = _ := hf 38
          have y39 : A.eval (.tmp 39) = _ := Eq.trans (hf 39) (by conv => lhs; simp [go_sem])
          have y40 : A.eval (.tmp 40) = _ := Eq.trans (hf 40) (by conv => lhs; simp [go_sem])
          have y41 : A.eval (.tmp 41) = _ := Eq.trans (hf 41) (by conv => lhs; simp [go_sem])
          have y42 : A.eval (.tmp 42) = _ := Eq.trans (hf 42) (by conv => lhs; simp [go_sem])
          have y43 : A.eval (.tmp 43) = _ := Eq.trans (hf 43) (by conv => lhs; simp [go_sem])
          have y44 : A.eval (.tmp 44) = _ := Eq.trans (hf 44) (by conv => lhs; simp [go_sem])
          have y45 : A.eval (.tmp 45) = _ := Eq.trans (hf 45) (by conv => lhs; simp [go_sem])
          have y46 : A.eval (.tmp 46) = _ := Eq.trans (hf 46) (by conv => lhs; simp [go_sem])
          have y47 : A.eval (.tmp 47) = _ := Eq.trans (hf 47) (by conv => lhs; simp [go_sem])
          have y48 : A.eval (.tmp 48) = _ := Eq.trans (hf 48) (by conv => lhs; simp [go_sem])
          have y49 : A.eval (.tmp 49) = _ := Eq.trans (hf 49) (by conv => lhs; simp [go_sem])
          have y50 : A.eval (.tmp 50) = _ := Eq.trans (hf 50) (by conv => lhs; simp [go_sem])
          have y51 : A.eval (.tmp 51) = _ := Eq.trans (hf 51) (by conv => lhs; simp [go_sem])
          have y52 : A.eval (.tmp 52) = _ := Eq.trans (hf 52) (by conv => lhs; simp [go_sem])
          have y53 : A.eval (.tmp 53) = _ := Eq.trans (hf 53) (by conv => lhs; simp [go_sem])
          have y54 : A.eval (.tmp 54) = _ := Eq.trans (hf 54) (by conv => lhs; simp [go_sem])
          have y55 : A.eval (.tmp 55) = _ := Eq.trans (hf 55) (by conv => lhs; simp [go_sem])
          have y56 : A.eval (.tmp 56) = _ := Eq.trans (hf 56) (by conv => lhs; simp [go_sem])
          have y57 : A.eval (.tmp 57) = _ := Eq.trans (hf 57) (by conv => lhs; simp [go_sem])
          have y58 : A.eval (.tmp 58) = _ := Eq.trans (hf 58) (by conv => lhs; simp [go_sem])
          have y59 : A.eval (.tmp 59) = _ := Eq.trans (hf 59) (by conv => lhs; simp [go_sem])
          have y60 : A.eval (.tmp 60) = _ := Eq.trans (hf 60) (by conv => lhs; simp [go_sem])
          have y61 : A.eval (.tmp 61) = _ := Eq.trans (hf 61) (by conv => lhs; simp [go_sem])
          have y62 : A.eval (.tmp 62) = _ := Eq.trans (hf 62) (by conv => lhs; simp [go_sem])
          have y63 : A.eval (.tmp 63) = _ := Eq.trans (hf 63) (by conv => lhs; simp [go_sem])
          have y64 : A.eval (.tmp 64) = _ := Eq.trans (hf 64) (by conv => lhs; simp [go_sem])
          have y65 : A.eval (.tmp 65) = _ := Eq.trans (hf 65) (by conv => lhs; simp [go_sem])
          have y66 : A.eval (.tmp 66) = _ := Eq.trans (hf 66) (by conv => lhs; simp [go_sem])
          have y67 : A.eval (.tmp 67) = _ := Eq.trans (hf 67) (by conv => lhs; simp [go_sem])
          have y68 : A.eval (.tmp 68) = _ := Eq.trans (hf 68) (by conv => lhs; simp [go_sem])
          have y69 : A.eval (.tmp 69) = _ := Eq.trans (hf 69) (by conv => lhs; simp [go_sem])
          have y70 : A.eval (.tmp 70) = _ := Eq.trans (hf 70) (by conv => lhs; simp [go_sem])
          have y71 : A.eval (.tmp 71) = _ := Eq.trans (hf 71) (by conv => lhs; simp [go_sem])
          have y72 : A.eval (.tmp 72) = _ := Eq.trans (hf 72) (by conv => lhs; simp [go_sem])
          have y73 : A.eval (.tmp 73) = _ := Eq.trans (hf 73) (by conv => lhs; simp [go_sem])
          have y74 : A.eval (.tmp 74) = _ := Eq.trans (hf 74) (by conv => lhs; simp [go_sem])
          have y75 : A.eval (.tmp 75) = _ := Eq.trans (hf 75) (by conv => lhs; simp [go_sem])
          have y76 : A.eval (.tmp 76) = _ := Eq.trans (hf 76) (by conv => lhs; simp [go_sem])
          have y77 : A.eval (.tmp 77) = _ := Eq.trans (hf 77) (by conv => lhs; simp [go_sem])
          have y78 : A.eval (.tmp 78) = _ := Eq.trans (hf 78) (by conv => lhs; simp [go_sem])
          have y79 : A.eval (.tmp 79) = _ := Eq.trans (hf 79) (by conv => lhs; simp [go_sem])
          have y80 : A.eval (.tmp 80) = _ := Eq.trans (hf 80) (by conv => lhs; simp [go_sem])
          have y81 : A.eval (.tmp 81) = _ := Eq.trans (hf 81) (by conv => lhs; simp [go_sem])
          have y82 : A.eval (.tmp 82) = _ := Eq.trans (hf 82) (by conv => lhs; simp [go_sem])
          have y83 : A.eval (.tmp 83) = _ := Eq.trans (hf 83) (by conv => lhs; simp [go_sem])
          have y84 : A.eval (.tmp 84) = _ := Eq.trans (hf 84) (by conv => lhs; simp [go_sem])
          have y85 : A.eval (.tmp 85) = _ := Eq.trans (hf 85) (by conv => lhs; simp [go_sem])
          have y86 : A.eval (.tmp 86) = _ := Eq.trans (hf 86) (by conv => lhs; simp [go_sem])
          have y87 : A.eval (.tmp 87) = _ := Eq.trans (hf 87) (by conv => lhs; simp [go_sem])
          have y88 : A.eval (.tmp 88) = _ := Eq.trans (hf 88) (by conv => lhs; simp [go_sem])
          have y89 : A.eval (.tmp 89) = _ := Eq.trans (hf 89) (by conv => lhs; simp [go_sem])
          have y90 : A.eval (.tmp 90) = _ := Eq.trans (hf 90) (by conv => lhs; simp [go_sem])
          have y91 : A.eval (.tmp 91) = _ := Eq.trans (hf 91) (by conv => lhs; simp [go_sem])
          have y92 : A.eval (.tmp 92) = _ := Eq.trans (hf 92) (by conv => lhs; simp [go_sem])
          clear hf
          have hA := frame_eq hn
          rw [show List.range 93 = [0, 1, 2, 3, 4, 5, 6, 7, 8, 9, 10, 11, 12, 13, 14, 15, 16, 17, 18, 19, 20, 21, 22, 23, 24, 25, 26, 27, 28, 29, 30, 31, 32, 33, 34, 35, 36, 37, 38, 39, 40, 41, 42, 43, 44, 45, 46, 47, 48, 49, 50, 51, 52, 53, 54, 55, 56, 57, 58, 59, 60, 61, 62, 63, 64, 65, 66, 67, 68, 69, 70, 71, 72, 73, 74, 75, 76, 77, 78, 79, 80, 81, 82, 83, 84, 85, 86, 87, 88, 89, 90, 91, 92] from rfl, hd] at hA
          simp only [List.map_cons, List.map_nil, y0, y1, y2, y3, y4, y5, y6, y7, y8, y9, y10, y11, y12, y13, y14, y15, y16, y17, y18, y19, y20, y21, y22, y23, y24, y25, y26, y27, y28, y29, y30, y31, y32, y33, y34, y35, y36, y37, y38, y39, y40, y41, y42, y43, y44, y45, y46, y47, y48, y49, y50, y51, y52, y53, y54, y55, y56, y57, y58, y59, y60, y61, y62, y63, y64, y65, y66, y67, y68, y69, y70, y71, y72, y73, y74, y75, y76, y77, y78, y79, y80, y81, y82, y83, y84, y85, y86, y87, y88, y89, y90, y91, y92] at hA
          clear y0 y1 y2 y3 y4 y5 y6 y7 y8 y9 y10 y11 y12 y13 y14 y15 y16 y17 y18 y19 y20 y21 y22 y23 y24 y25 y26 y27 y28 y29 y30 y31 y32 y33 y34 y35 y36 y37 y38 y39 y40 y41 y42 y43 y44 y45 y46 y47 y48 y49 y50 y51 y52 y53 y54 y55 y56 y57 y58 y59 y60 y61 y62 y63 y64 y65 y66 y67 y68 y69 y70 y71 y72 y73 y74 y75 y76 y77 y78 y79 y80 y81 y82 y83 y84 y85 y86 y87 y88 y89 y90 y91 y92
          clear hn hd
          subst hA
          obtain ⟨hC1, hC2⟩ := hC
          have hOQ : OwQ V5 (.slice (some ⟨gq, 0, none⟩) (us.length + 1) cq) ((Y ++ [((n, aV, ys.length, cV), (n, ys))]).map Prod.fst) := by
            rw [List.map_append, HUS.out]
            exact OQ
          have x5 := HX3.out.lset hC1 (vL' := .slice (some ⟨gq, 0, none⟩) (us.length + 1) cq) (Y' := Y ++ [((n, aV, ys.length, cV), (n, ys))]) hOQ (fun g hg => by
            have e' : gq = g := by cases hg; rfl
            subst e'
            exact HQ9.imp (fun e => HX3.out.of gq e) (fun e => e)) (fun y hy => by
            rcases List.mem_append.1 hy with h1 | h1
            · exact HX3.out.yk y h1
            · rw [List.mem_singleton.1 h1]
              exact ⟨rfl, HV.out.below HBX.out, HJ.out⟩)
          have hcc : Chg K w (V5.setCell ⟨b, 1, none⟩ (.slice (some ⟨gq, 0, none⟩) (us.length + 1) cq)) := ((chg0 HBX.out).trans hC1 (fun k _ e => HX3.out.of k e)).setCell (.inl HX3.out.fb) _
          have hfk : ∀ k, FN K w3 V5 k → K k ∨ w.heap.size ≤ k := fun k hk => hk.imp (fun h => h) (fun h => Nat.le_trans HBX.out.size h.1)
          have e1 : V5.cell? ⟨b, 1, none⟩ = some (.slice aL us.length cL) := (hC1.cell (HX3.out.lt b HX3.out.fb) hOb).trans HX3.out.cells.2.1
          have ef : ∀ j, V5.frozen? ⟨b, j, none⟩ = false := fun j => (hC1.frozen (HX3.out.lt b HX3.out.fb) hOb).trans (HX3.out.cells.2.2 j)
          obtain ⟨w5, hw5⟩ : ∃ w5, V5.setCell ⟨b, 1, none⟩ (.slice (some ⟨gq, 0, none⟩) (us.length + 1) cq) = w5 := ⟨_, rfl⟩
          rw [hw5] at x5 hcc
          have HX5 := Lib.hid (x5.as (t' := ⟨t.nx, t.H ++ [(n, ys)]⟩) rfl)
          have HC5 := Lib.hid hcc
          have HFK := Lib.hid hfk
          have HY5 : Hid ((Y ++ [((n, aV, ys.length, cV), (n, ys))] : Ys).map Prod.snd = t.H ++ [(n, ys)]) := by
            show _ = _
            rw [List.map_append, HYH.out]
            rfl
          have HW5 := Lib.hid hw5
          obtain ⟨Y5, hY5⟩ : ∃ Y5, (Y ++ [((n, aV, ys.length, cV), (n, ys))] : Ys) = Y5 := ⟨_, rfl⟩
          rw [hY5] at HX5 HY5
          have CP5 := xplace_any t.nx HX5.out (by
            have h9 := congrArg List.length HY5.out
            rw [List.length_map, List.length_append] at h9
            have := held_le HOK.out
            have h8 : [(n, ys)].length = 1 := rfl
            omega)
          rw [HY5.out] at CP5
          have HCP5 := Lib.hid CP5
          clear x5 hcc hfk hw5 hC1 hC2 OQ HQ9 hOQ kc10 hOb hOg hg03 HROW CP5 hY5
          go_upto_region 12 with (fail)
          rw [HW5.out]
          clear e1 ef
          have HM5 := Lib.hid (mid_in HOK.out HIN.out)
          have HTI := Lib.hid (take_in HIN.out)
          have HTK := Lib.hid (tkok_take HOK.out (n, ys))
          have cn5 := HX5.out.cells.1
          simp only at cn5
          go_wp2_with (go_at_call 29; refine HCP5.out.mono ?_; rintro e w6 ⟨rfl, hb⟩; have HX6 := Lib.hid (HX5.out.below hb); have HC6 : Hid (Chg K w w6) := HC5.out.trans (G := fun _ => False) (chg0 hb) (fun _ _ e => e.elim); clear hb cn5)
          go_loopw [7, 8] (fun ov av wr => ∃ (t' : Tk) (Y' : Ys) (vL' : Value) (K' : Nat → Prop) (acc : List Ob) (a : Option Addr) (c : Nat), ov = .slice a acc.length c ∧ av = .int .i64 (plI t'.H t'.nx) ∧ Hid (TZ wr K' J b t' Y' vL') ∧ Hid (Y'.map Prod.snd = t'.H) ∧ Hid (TkMid t') ∧ Hid (runT (t.H.length + 1) ⟨t.nx, t.H ++ [(n, ys)]⟩ = (acc ++ (runT t'.H.length t').1, (runT t'.H.length t').2)) ∧ Hid (∀ k, K' k → K k ∨ w.heap.size ≤ k) ∧ Hid (Chg K w wr) ∧ Hid (OwO wr w.heap.size (.slice a acc.length c) acc) ∧ Hid (∀ g, (Value.slice a acc.length c).ownBlock = some g → ¬ K' g) ∧ Hid (acc.length + 32 * t'.H.length ≤ 544)) (fun ov _ _ => 600 - lenS ov)
          case atStart =>
            have hll : (t.H ++ [(n, ys)]).length = t.H.length + 1 := by rw [List.length_append]; rfl
            refine ⟨⟨t.nx, t.H ++ [(n, ys)]⟩, Y5, _, _, [], none, 0, rfl, rfl, HX6.out, HY5.out, HM5.out, ?_, HFK.out, HC6.out, OwO_nil _ _, fun g hg => (by cases hg), ?_⟩
            · show _ = _
              rw [List.nil_append]
              simp only [hll]
            · show _ ≤ _
              simp only [hll, List.length_nil]
              have := held_le HOK.out
              omega
          case round =>
            obtain ⟨t', Y', vL', K', acc, a, c, rfl, rfl, HX, HYT, HM, HRT, HKK, HCR, HO, HOK', HNN⟩ := hrel
            clear HX5 HX6 HC5 HC6 HCP5 HX3
            obtain ⟨hps, hpn⟩ := pl_spec t'.nx t'.H
            cases hf : findH t'.H t'.nx with
            | none =>
              have HF := Lib.hid hf
              rw [hps hf]
              clear hps hpn hf
              go_wp2_with fail
              have HE : Hid (XRes w wr K J b (takeR t (n, ys)) (.slice a acc.length c) ∧ (takeR t (n, ys)).1.2 = 0) := by
                have h9 := HRT.out
                rw [runT_none HF.out, List.append_nil] at h9
                have h8 := HTI.out
                rw [h9] at h8
                rw [h8]
                exact ⟨⟨HO.out, HCR.out, K', Y', vL', HX.out, HYT.out, HKK.out, HOK'.out⟩, rfl⟩
              exact bodyPost_ret (v := .tuple #[.slice a acc.length c, .int .i64 0]) (by simp [results, Tryz.results8, go_sem]) rfl ⟨_, by rw [HE.out.2], HE.out.1⟩
            | some x =>
              obtain ⟨i, hi, hxi, hdr⟩ := hpn x hf
              have hnd := HM.out.nd
              have hbk := HM.out.ok x (findH_some hf).1
              have hxl : x.2.length ≤ 32 ∧ 1 ≤ x.2.length := ⟨hbk.2.1.2, hbk.2.1.1⟩
              have hdl := dropH_len hf hnd
              have hdr2 := hdr hnd
              have HRS := Lib.hid (runT_some hf hnd)
              have hnn := HNN.out
              obtain ⟨y, hy, hy2⟩ : ∃ y, Y'[i]? = some y ∧ y.2 = x := by
                have h9 := hxi
                rw [← HYT.out, List.getElem?_map] at h9
                cases hq : Y'[i]? with
                | none => rw [hq] at h9; cases h9
                | some y => rw [hq] at h9; exact ⟨y, rfl, Option.some.inj h9⟩
              have hil : i < Y'.length := (List.getElem?_eq_some_iff.1 hy).1
              have hyl16 : Y'.length ≤ 17 := by
                have h9 := congrArg List.length HYT.out
                rw [List.length_map] at h9
                omega
              obtain ⟨aL, cL, rfl⟩ := HX.out.form
              obtain ⟨us, hus⟩ : ∃ us, Y'.map Prod.fst = us := ⟨_, rfl⟩
              have hul : us.length = Y'.length := by rw [← hus, List.length_map]
              obtain ⟨g, rfl, -, hnc, -, q1⟩ := yq_at HX.out.ow hy
              obtain ⟨-, hos, hjb⟩ := HX.out.yk y (List.mem_of_getElem? hy)
              rw [hy2] at hos
              obtain ⟨sa, sc, hsl⟩ := hos.form
              rw [hsl] at q1 hos
              obtain ⟨r5, w5, hr5, ho5, hg5, hb5⟩ := run_gappo wr 29 w.heap.size _ acc HO.out (.slice sa x.2.length sc) x.2 hos (by omega) HCR.out.size
              have hc5 : Chg (fun k => (Value.slice a acc.length c).ownBlock = some k) wr w5 := (Chg.refl _ wr).grown hg5 (fun k hk => .inl hk)
              have hown : ∀ k, (Value.slice a acc.length c).ownBlock = some k → w.heap.size ≤ k ∧ k < wr.heap.size := fun k hk => World.ownsRow.lt HO.out k hk
              have hx5 := HX.out.keep hc5 (fun k hk e => HOK'.out k e hk) (fun k hk e => by have h1 := HX0.out.jt k hk; have h2 := (hown k e).1; omega)
              obtain ⟨a5, c5, rfl⟩ := own_form ho5
              have hoff5 : ∀ k, (Value.slice a5 (acc ++ x.2).length c5).ownBlock = some k → ¬ K' k := fun k hk hkk => (hb5 k hk).elim (fun e => HOK'.out k e hkk) (fun h => by have := HX.out.lt k hkk; omega)
              have hC5 : Chg K w w5 := HCR.out.trans hc5 (fun k hk e => by have := (hown k e).1; omega)
              -- the part ahead of it, the part behind it
              have hq5 := hx5.ow
              rw [hus] at hq5
              obtain ⟨r6, w6, hr6, ho6, hg6, hb6⟩ := run_qs w5 w.heap.size (.slice none 0 0) [] (gown_nil (R := RBT) _ _) _ _ (qs_pre (k := i) hq5 (by omega)) (by rw [List.length_take]; simp; omega) hC5.size (ty := 22)
              rw [List.nil_append] at ho6
              have hb56 : Below w5.heap.size w5 w6 := (Below.refl _ w5).grown hg6 (Nat.le_refl _) (fun k hk => by cases hk)
              have hx6 := hx5.below hb56
              have hq6 := hx6.ow
              rw [hus] at hq6
              have h6w : ∀ k, r6.ownBlock = some k → w5.heap.size ≤ k := fun k hk => (hb6 k hk).elim (fun e => (by cases e)) (fun h => h)
              obtain ⟨r7, w7, hr7, ho7, hg7, hb7⟩ := run_qs w6 w.heap.size r6 (us.take i) ho6 _ _ (qs_suf (k := i + 1) hq6 (by omega)) (by rw [List.length_take, List.length_drop]; omega) (Nat.le_trans hC5.size hb56.size) (ty := 22)
              obtain ⟨a7, c7, hr7e⟩ := own_form ho7
              obtain ⟨n7, hn7⟩ : ∃ n7, (us.take i ++ us.drop (i + 1)).length = n7 := ⟨_, rfl⟩
              rw [hn7] at hr7e
              subst hr7e
              have hb57 : Below w5.heap.size w5 w7 := hb56.grown hg7 hb56.size h6w
              have hx7 := hx6.keep (G := fun k => r6.ownBlock = some k) ((Chg.refl _ w6).grown hg7 (fun k hk => .inl hk)) (fun k hk e => by have h1 := hx5.lt k hk; have h2 := h6w k e; omega) (fun k hk e => by have h1 := hx5.jt k hk; have h2 := h6w k e; omega)
              have hq7 : OwQ w7 (.slice a7 n7 c7) ((Y'.take i ++ Y'.drop (i + 1)).map Prod.fst) := by
                rw [List.map_append, List.map_take, List.map_drop, hus]
                exact gown_mono ho7 (Nat.zero_le _)
              have hx8 := hx5.lset (chg0 hb57) (vL' := .slice a7 n7 c7) (Y' := Y'.take i ++ Y'.drop (i + 1)) hq7 (fun k hk => .inr ((hb7 k hk).elim (h6w k) (fun h => Nat.le_trans hb56.size h))) (fun y hy => hx5.yk y ((List.mem_append.1 hy).elim List.mem_of_mem_take List.mem_of_mem_drop))
              have hoff8 : ∀ k, (Value.slice a5 (acc ++ x.2).length c5).ownBlock = some k → ¬ FN K' w5 w7 k := fun k hk hf => hf.elim (hoff5 k hk) (fun h => by have := (World.ownsRow.lt ho5 k hk).2; omega)
              have ho8 : OwO (w7.setCell ⟨b, 1, none⟩ (.slice a7 n7 c7)) w.heap.size (.slice a5 (acc ++ x.2).length c5) (acc ++ x.2) := own_chg (own_below ho5 hb57) (chg_pt _ _ _ _) (fun k hk e => hoff5 k hk (by rw [show k = b from e]; exact HX.out.fb))
              have hC8 : Chg K w (w7.setCell ⟨b, 1, none⟩ (.slice a7 n7 c7)) := (hC5.trans (G := fun _ => False) (chg0 hb57) (fun _ _ e => e.elim)).setCell (.inl HX0.out.fb) _
              have hk8 : ∀ k, FN K' w5 w7 k → K k ∨ w.heap.size ≤ k := fun k hk => hk.elim (HKK.out k) (fun h => .inr (Nat.le_trans hC5.size h.1))
              have hy8 : (Y'.take i ++ Y'.drop (i + 1)).map Prod.snd = dropH t'.H t'.nx := by
                rw [List.map_append, List.map_take, List.map_drop, HYT.out]
                exact hdr2
              have c1 := HX.out.cells.2.1
              have c2 := hx5.cells.2.1
              have c3 := hx6.cells.2.1
              obtain ⟨c40, c41, c42⟩ := hx7.cells
              have hilz : (i : Int) < Y'.length := by omega
              have hicz : (i : Int) ≤ cL := by omega
              have HC2' := Lib.hid c2
              have HC3' := Lib.hid c3
              have HC4' := Lib.hid (And.intro c41 c42)
              have HR6 := Lib.hid hr6
              have HR7 := Lib.hid hr7
              have HX8 := Lib.hid hx8
              have HO8 := Lib.hid ho8
              have HC8 := Lib.hid hC8
              have HK8 := Lib.hid hk8
              have HY8 := Lib.hid hy8
              have HOF8 := Lib.hid hoff8
              have HNUM := Lib.hid (And.intro hxl (And.intro hdl hnn))
              have HF := Lib.hid hf
              have HI := Lib.hid hi
              have HUL := Lib.hid hul
              rw [hi]
              clear hpn hps hxi hdr hnd hbk hxl hdl hdr2 hnn hy hy2 hjb hos hsl hc5 hown hx5 hoff5 hC5 hq5 hr6 ho6 hg6 hb6 hb56 hx6 hq6 h6w hr7 ho7 hn7 hg7 hb7 hb57 hx7 hq7 hx8 hoff8 ho8 hC8 hk8 hy8 ho5 hg5 hb5 c2 c3 c40 c41 c42 hf hi hus
              go_upto_region 15 with (at_builtin; refine app_go rfl (.tmp 47) (.tmp 55) 29 rfl _ _ _ _ rfl rfl hr5 ?_)
              clear hr5 c1 q1
              have c2 := HC2'.out
              have hr6 := HR6.out
              go_upto_region 17 with (at_builtin; refine app_go rfl (.tmp 57) (.tmp 63) 22 rfl _ _ _ _ rfl rfl hr6 ?_)
              clear c2 hr6
              have c3 := HC3'.out
              have hr7 := HR7.out
              obtain ⟨A0, hA0⟩ : ∃ A0, (if cL = i + 1 then (some ⟨g, 0, none⟩ : Option Addr) else some ⟨g, (i + 1) * 2, none⟩) = some A0 := by
                by_cases h : cL = i + 1
                · exact ⟨_, if_pos h⟩
                · exact ⟨_, if_neg h⟩
              rw [hA0] at hr7
              have hsub : us.length - (i + 1) = Y'.length - (i + 1) := by have := HUL.out; omega
              rw [hsub] at hr7
              obtain ⟨m, hm⟩ : ∃ m : Nat, i + 1 = m := ⟨_, rfl⟩
              have hmz : (i : Int) + 1 = m := by omega
              have hml : m ≤ Y'.length := by omega
              have hmc : m ≤ cL := by omega
              rw [hm] at hA0 hr7
              have HM1 := Lib.hid hm
              clear hm hsub hilz hicz
              go_upto_region 18 with (at_builtin; refine app_go rfl (.tmp 65) (.tmp 72) 22 rfl _ _ _ _ rfl rfl hr7 ?_)
              clear c3 hr7 hA0 hmz hml hmc
              obtain ⟨c41, c42⟩ := HC4'.out
              go_upto_region 19 with (fail)
              clear c41 c42
              obtain ⟨w8, hw8⟩ : ∃ w8, w7.setCell ⟨b, 1, none⟩ (.slice a7 n7 c7) = w8 := ⟨_, rfl⟩
              rw [hw8] at HX8 HO8 HC8
              rw [hw8]
              have hx8 := HX8.out
              obtain ⟨d0, -, d2⟩ := hx8.cells
              have hx9 := hx8.nset (z_nxt t'.nx)
              have ho9 : OwO (w8.setCell ⟨b, 0, none⟩ (.int .i64 (z_nxt t'.nx))) w.heap.size (.slice a5 (acc ++ x.2).length c5) (acc ++ x.2) := own_chg HO8.out (chg_pt _ _ _ _) (fun k hk e => HOF8.out k hk (by rw [show k = b from e]; exact hx8.fb))
              have hC9 : Chg K w (w8.setCell ⟨b, 0, none⟩ (.int .i64 (z_nxt t'.nx))) := HC8.out.setCell (.inl HX0.out.fb) _
              have hzn : z_nxt t'.nx = nxt t'.nx := by unfold z_nxt nxt; omega
              have hm9 : TkMid ⟨z_nxt t'.nx, dropH t'.H t'.nx⟩ := by have h9 := mid_step HM.out HF.out; rw [← hzn] at h9; exact h9
              have HX9 := Lib.hid (hx9.as (t' := ⟨z_nxt t'.nx, dropH t'.H t'.nx⟩) rfl)
              have HO9 := Lib.hid ho9
              have HC9 := Lib.hid hC9
              have HZN := Lib.hid hzn
              have HM9 := Lib.hid hm9
              have CN := Lib.hid (rnext_any t'.nx w8)
              clear hx8 hx9 ho9 hC9 hzn hm9 hw8
              go_upto_region 20 with (go_at_call 30; refine CN.out.mono ?_; rintro e w9 ⟨rfl, rfl⟩)
              clear d0 d2
              obtain ⟨w9, hw9⟩ : ∃ w9, w8.setCell ⟨b, 0, none⟩ (.int .i64 (z_nxt t'.nx)) = w9 := ⟨_, rfl⟩
              rw [hw9] at HX9 HO9 HC9
              rw [hw9]
              have hlen9 : List.length (Y'.take i ++ Y'.drop (i + 1)) ≤ 1000 := by rw [List.length_append, List.length_take, List.length_drop]; omega
              have CP9 := xplace_any (z_nxt t'.nx) HX9.out hlen9
              rw [HY8.out] at CP9
              have HCP9 := Lib.hid CP9
              have e9 := HX9.out.cells.1
              simp only at e9
              clear hw9 hlen9 CP9
              go_wp2_with (go_at_call 29; refine HCP9.out.mono ?_; rintro e w10 ⟨rfl, hb⟩; have HXE := Lib.hid (HX9.out.below hb); have HOE := Lib.hid (HO9.out.below hb); have HCE : Hid (Chg K w w10) := HC9.out.trans (G := fun _ => False) (chg0 hb) (fun _ _ e => e.elim); clear hb e9)
              go_roundw
              case rel =>
                obtain ⟨⟨hx1, hx2⟩, hdl, hnn⟩ := HNUM.out
                refine ⟨⟨z_nxt t'.nx, dropH t'.H t'.nx⟩, _, _, _, acc ++ x.2, a5, c5, ?_, rfl, HXE.out, HY8.out, HM9.out, ?_, HK8.out, HCE.out, HOE.out, HOF8.out, ?_⟩
                · rw [List.length_append]
                · show _ = _
                  rw [HRT.out, HRS.out, HZN.out, List.append_assoc]
                · show (acc ++ x.2).length + 32 * (dropH t'.H t'.nx).length ≤ 544
                  rw [List.length_append]
                  omega
              case measure =>
                obtain ⟨⟨hx1, hx2⟩, hdl, hnn⟩ := HNUM.out
                simp only [lenS]
                omega
  · have hdec : decide (BtOk n ys) = false := decide_eq_false hbt
    have HRE : Hid (rfE t (n, ys) = 1) := by show _ = _; unfold rfE; rw [if_pos hbt]
    have HTE : Hid ((takeR t (n, ys)).1.2 = 1 ∧ (takeR t (n, ys)).1.1 = [] ∧ (takeR t (n, ys)).2 = t) := by have h9 := HTR.out.2 (by rw [HRE.out]; decide); rw [HRE.out] at h9; rw [h9]; exact ⟨rfl, rfl, rfl⟩
    go_wp2_with fail
    exact bodyPost_ret (v := .tuple #[.slice none 0 0, .int .i64 1]) (by simp [results, Tryz.results8, go_sem]) rfl ⟨_, by rw [HTE.out.1], by rw [HTE.out.2.1]; exact OwO_nil _ _, chg0 HB12.out, K, Y, vL0, by rw [HTE.out.2.2]; exact HX0.out.below HB12.out, by rw [HTE.out.2.2]; exact HYH.out, fun k hk => .inl hk, fun g hg => (by cases hg)⟩
end
end Go.Proofs.YtfiaghfaijlfjaaGreat
