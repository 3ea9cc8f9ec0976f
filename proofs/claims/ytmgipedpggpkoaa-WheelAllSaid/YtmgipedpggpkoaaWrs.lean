/- The reference's wheel: whether a key is set; without a key. No conditions but on lengths. -/
import Derived.Test.YtmgipedpggpkoaaWtm
namespace Go.Proofs.Ytmgipedpggpkoaa
set_option maxRecDepth 100000
open Go.RowKit

def isKey (key : Int) (y : Tm) : Bool := y.2 == key
def issetL (l : List Tm) (key : Int) : Bool := l.any (isKey key)
def stopL (l : List Tm) (key : Int) : List Tm := l.filter (fun y => !isKey key y)
theorem stopL_le (l : List Tm) (key : Int) : (stopL l key).length ≤ l.length := List.length_filter_le _ _
theorem tm_take (l : List Tm) (k : Nat) (h : k < l.length) : l.take (k + 1) = l.take k ++ [l.getD k zTm] := by
  rw [List.take_add_one]
  simp [List.getD, h]
theorem isset_step (l : List Tm) (key : Int) (k : Nat) (h : k < l.length) : issetL (l.take (k + 1)) key = (issetL (l.take k) key || ((l.getD k zTm).2 == key)) := by
  rw [tm_take l k h]
  unfold issetL
  rw [List.any_append]
  simp [isKey]
theorem stop_step (l : List Tm) (key : Int) (k : Nat) (h : k < l.length) : stopL (l.take (k + 1)) key = stopL (l.take k) key ++ if (l.getD k zTm).2 = key then [] else [l.getD k zTm] := by
  rw [tm_take l k h]
  unfold stopL
  rw [List.filter_append]
  congr 1
  generalize l.getD k zTm = z
  by_cases hd : z.2 = key
  · rw [if_pos hd, List.filter_cons_of_neg (by simp [isKey, hd])]; rfl
  · rw [if_neg hd, List.filter_cons_of_pos (by simp [isKey, hd])]; rfl
theorem isset_at {l : List Tm} {key : Int} {k : Nat} (h : k < l.length) (hk : (l.getD k zTm).2 = key) : issetL l key = true := by
  unfold issetL
  refine List.any_eq_true.2 ⟨l.getD k zTm, ?_, by rw [isKey, hk]; exact beq_self_eq_true key⟩
  simp [List.getD, h]
theorem isset_no {l : List Tm} {key : Int} (h : ∀ i, i < l.length → (l.getD i zTm).2 ≠ key) : issetL l key = false := by
  unfold issetL
  refine List.any_eq_false.2 fun y hy => ?_
  obtain ⟨i, hi, rfl⟩ := List.mem_iff_getElem.1 hy
  have := h i hi
  simpa [isKey, List.getD, hi] using this
theorem mapp1_any {ops : Array Oper} {rest : List Oper} {o : Oper} {a : Act} {Q : Exit → Act → World → Prop} {W : World} (hgd : o.guard = none) (s x : Operand)
    (ho : o.op = .call { callee := .builtin .append, args := #[s, x], argTypes := #[26, 26] }) (w : World) (y : Tm) (hW : W = w.alloc (.cells #[.int .i64 y.1, .int .i64 y.2] 32)) (S : Nat) (v : Value) (xs : List Tm)
    (hs : a.eval s = v) (hx : a.eval x = .slice (some ⟨w.heap.size, 0, none⟩) 1 1) (hown : OwM w S v xs) (hl : xs.length ≤ 3000) (hS : S ≤ w.heap.size)
    (h : ∀ g cap w', OwM w' S (.slice (some ⟨g, 0, none⟩) (xs.length + 1) cap) (xs ++ [y]) → Below S w w' → wpList Try.prog ops Q rest (a.put o.dst (.slice (some ⟨g, 0, none⟩) (xs.length + 1) cap)) w') : wpList Try.prog ops Q (o :: rest) a W :=
  gapp1_any (R := RM) hgd s x ho w y 32 hW S v xs hs hx hown hl hS h
theorem OwM.apart {w : World} {S : Nat} {v : Value} {l : List Tm} (h : OwM w S v l) : ∀ a n c, v = .slice (some a) n c → S ≤ a.block ∧ a.block < w.heap.size := by
  rintro a n c rfl
  rcases h.2 with ⟨h1, _⟩ | ⟨g, cap, cur, h1, h2, h3, _⟩
  · cases h1
  · cases h1
    exact ⟨h2, (Array.getElem?_eq_some_iff.1 h3).1⟩
set_option maxHeartbeats 8000000 in
theorem xis_any (b : Nat) (v : Value) (l : List Tm) (key : Int) (w : World) (h : XW w b v l) (hl : l.length ≤ 2000) :
    Calls Try.prog 22 #[.pointer (some ⟨b, 0, none⟩), .int .i64 key] w fun e w' => e = .returned (.bool (issetL l key)) ∧ w = w' := by
  obtain ⟨a, c, rfl⟩ := h.ms.form
  obtain ⟨c0, cf⟩ := h.cells
  have HK : Hid (Ms w (.slice a l.length c) l) := h.ms
  clear h
  go_enter Try.func22, Try.ntmps22
  go_wp2_with fail
  go_loopw [5] (fun i wr => ∃ k : Nat, k ≤ l.length ∧ i = .int .i64 k ∧ Hid (∀ j, j < k → (l.getD j zTm).2 ≠ key) ∧ w = wr) (fun i _ => l.length - (intOf i).toNat)
  case atStart => exact ⟨0, Nat.zero_le _, rfl, fun j h => absurd h (Nat.not_lt_zero _), rfl⟩
  case round =>
    obtain ⟨k, hk, rfl, HNO, rfl⟩ := hrel
    by_cases hlt : k < l.length
    · obtain ⟨b2, off, rfl, hB, p0, p1⟩ := HK.out.at hlt
      obtain ⟨y, hy⟩ : ∃ y, l.getD k zTm = y := ⟨_, rfl⟩
      have HY := Lib.hid hy
      rw [hy] at p0 p1
      by_cases hd : y.2 = key
      · have hq : (y.2 == key) = true := by simpa using hd
        have HD := Lib.hid (isset_at (key := key) hlt (by rw [hy]; exact hd))
        clear hd hy
        go_wp2_with fail
        go_ret
        exact ⟨(show Ending.returned (.bool true) = .returned (.bool (issetL l key)) by rw [HD.out]), rfl⟩
      · have hq : (y.2 == key) = false := by simpa using hd
        have HD := Lib.hid hd
        clear hd hy
        go_wp2_with fail
        go_roundw
        case rel =>
          refine ⟨k + 1, by omega, by go_num, fun j hj => ?_, by first | rfl | trivial⟩
          by_cases e : j = k
          · subst e
            rw [HY.out]; exact HD.out
          · exact HNO.out j (by omega)
        case measure => simp [intOf]; omega
    · obtain rfl : k = l.length := by omega
      go_wp2_with fail
      go_ret
      exact ⟨(show Ending.returned (.bool false) = .returned (.bool (issetL l key)) by rw [isset_no HNO.out]), rfl⟩
set_option maxHeartbeats 16000000 in
theorem xstop_any (b : Nat) (v : Value) (l : List Tm) (key : Int) (w : World) (h : XW w b v l) (hl : l.length ≤ 2000) :
    Calls Try.prog 23 #[.pointer (some ⟨b, 0, none⟩), .int .i64 key] w fun e w' => e = .returned (.bool (issetL l key)) ∧ Chg (fun k => k = b) w w' ∧ ∃ v', XW w' b v' (stopL l key) ∧ ∀ a n c, v' = .slice (some a) n c → w.heap.size ≤ a.block := by
  obtain ⟨a, c, rfl⟩ := h.ms.form
  have HQ := Lib.hid h
  clear h
  obtain ⟨c0, cf⟩ := HQ.out.cells
  go_enter Try.func23, Try.ntmps23
  go_wp2_with fail
  go_loopw [5, 6, 7] (fun lv was i wr => ∃ (k n : Nat) (ax : Option Addr) (cx : Nat), k ≤ l.length ∧ i = .int .i64 k ∧ was = .bool (issetL (l.take k) key) ∧ lv = .slice ax n cx ∧ Hid (OwM wr w.heap.size (.slice ax n cx) (stopL (l.take k) key)) ∧ Hid (Below w.heap.size w wr)) (fun _ _ i _ => l.length - (intOf i).toNat)
  case atStart => exact ⟨0, 0, none, 0, Nat.zero_le _, rfl, rfl, rfl, OwM_nil w _, Below.refl _ _⟩
  case round =>
    obtain ⟨k, nx, ax, cx, hk, rfl, rfl, rfl, HO, HB⟩ := hrel
    have HQR := Lib.hid (HQ.out.below HB.out)
    clear c0 cf
    obtain ⟨c0, cf⟩ := HQR.out.cells
    by_cases hlt : k < l.length
    · obtain ⟨b2, off, rfl, hB, p0, p1⟩ := HQR.out.ms.at hlt
      have hst := stop_step l key k hlt
      have his := isset_step l key k hlt
      obtain ⟨y, hy⟩ : ∃ y, l.getD k zTm = y := ⟨_, rfl⟩
      rw [hy] at p0 p1 hst his
      have HST := Lib.hid hst
      have HIS := Lib.hid his
      clear hst hy his
      by_cases hd : y.2 = key
      · have hq : (y.2 == key) = true := by simpa using hd
        have HD := Lib.hid hd
        clear hd
        rw [hq, Bool.or_true] at HIS
        go_wp2_with fail
        go_roundw
        case rel =>
          refine ⟨k + 1, nx, ax, cx, by omega, by go_num, by rw [HIS.out], rfl, ?_, HB.out⟩
          rw [HST.out, if_pos HD.out, List.append_nil]; exact HO.out
        case measure => simp [intOf]; omega
      · have hq : (y.2 == key) = false := by simpa using hd
        have HD := Lib.hid hd
        have hlen : (stopL (l.take k) key).length ≤ 3000 := by have := stopL_le (l.take k) key; rw [List.length_take] at this; omega
        have HLE := Lib.hid hlen
        clear hd hlen
        rw [if_neg HD.out] at HST
        rw [hq, Bool.or_false] at HIS
        obtain ⟨xs, hxs⟩ : ∃ xs, stopL (l.take k) key = xs := ⟨_, rfl⟩
        rw [hxs] at HO HLE HST
        clear hxs
        obtain rfl : nx = xs.length := by obtain ⟨a9, c9, h9⟩ := HO.out.form; cases h9; rfl
        have HSW : Hid (w.heap.size ≤ wr.heap.size) := HB.out.size
        go_wp2_with (at_builtin; refine mapp1_any rfl (.tmp 27) (.tmp 35) rfl wr y rfl w.heap.size (.slice ax xs.length cx) xs rfl rfl HO.out HLE.out HSW.out ?_; intro g cap w' ho9 hb9; have HO9 := Lib.hid ho9; have HB9 := Lib.hid (HB.out.trans hb9); clear ho9 hb9)
        go_roundw
        case rel =>
          refine ⟨k + 1, _, _, _, by omega, by go_num, by rw [HIS.out], rfl, ?_, HB9.out⟩
          rw [HST.out]; exact HO9.out
        case measure => simp [intOf]; omega
    · obtain rfl : k = l.length := by omega
      rw [List.take_length] at HO
      have HRQ := Lib.hid (XW.set HQR.out HO.out.ms (fun a n c e => ⟨by have := (HO.out.apart a n c e).1; have := HQ.out.lt; omega, (HO.out.apart a n c e).2⟩))
      have HCG : Hid (Chg (fun k => k = b) w (wr.setCell ⟨b, 0, none⟩ (.slice ax nx cx))) := Chg.setCell (F := fun k => k = b) (p := ⟨b, 0, none⟩) (chg0 HB.out) (.inl rfl) _
      have HT : Hid (issetL (l.take l.length) key = issetL l key) := by show _ = _; rw [List.take_length]
      go_wp2_with fail
      go_ret
      exact ⟨(show Ending.returned (.bool (issetL (l.take l.length) key)) = .returned (.bool (issetL l key)) by rw [HT.out]), HCG.out, _, HRQ.out, fun a n c e => (HO.out.apart a n c e).1⟩
end Go.Proofs.Ytmgipedpggpkoaa
