/- What the program's views are asked to answer; the reference's answers in the same form; the law's examples. -/
import Derived.Test.YtahhhegknmiinaaVrb
namespace Go.Proofs.Ytahhhegknmiinaa
set_option maxRecDepth 100000
open Go.RowKit

def chkV (l : List Vw) : Int := if VOk l then 0 else 1
theorem Zs_low {w w' : World} {v : Value} {xs : List Int} (h : Zs w v xs) (hb : Below w.heap.size w w') : Zs w' v xs := by
  obtain ⟨h0, h | ⟨b, off, cap, h1, h2, h3⟩⟩ := h
  · exact ⟨h0, .inl h⟩
  · exact ⟨h0, .inr ⟨b, off, cap, h1, h2, fun i hi => (hb.cell (p := ⟨b, off + i, none⟩) (World.block_lt_of_cell? w _ (h3 i hi))).trans (h3 i hi)⟩⟩
theorem Zs_form {w : World} {v : Value} {xs : List Int} (h : Zs w v xs) : ∃ a c, v = .slice a xs.length c := by
  obtain ⟨h0, ⟨a, cap, h1, h2, rfl⟩ | ⟨b, off, cap, h1, h2, h3⟩⟩ := h
  · exact ⟨a, cap, h1⟩
  · exact ⟨_, _, h1⟩
/-- What the program's views answer. -/
structure Vc : Prop where
  check : ∀ (v : Value) (l : List Vw) (w : World), Vs w v l → l.length ≤ 1000 → Calls Try.prog 16 #[v] w fun e w' => e = .returned (.int .i64 (chkV l)) ∧ Below w.heap.size w w'
  get : ∀ (v : Value) (l : List Vw) (id : Int) (w : World), Vs w v l → l.length ≤ maxLen → Calls Try.prog 10 #[v, .int .i64 id] w fun e w' => e = .returned (.tuple #[hxV (getV l id), .bool (getB l id)]) ∧ Below w.heap.size w w'
  set : ∀ (v : Value) (l : List Vw) (id : Int) (h : Hx) (w : World), Vs w v l → l.length ≤ 1000 → Calls Try.prog 12 #[v, .int .i64 id, hxV h] w fun e w' => ∃ r, e = .returned (.tuple #[r, .int .i64 (setE l id h)]) ∧ Vs w' r (setL l id h) ∧ Below w.heap.size w w'
  drop : ∀ (v : Value) (l : List Vw) (id : Int) (w : World), Vs w v l → l.length ≤ 1000 → Calls Try.prog 14 #[v, .int .i64 id] w fun e w' => ∃ r, e = .returned (.tuple #[r, .int .i64 (dropE l id)]) ∧ Vs w' r (dropL l id) ∧ Below w.heap.size w w'
  below : ∀ (v : Value) (l : List Vw) (own : Hx) (w : World), Vs w v l → l.length ≤ 1000 → Calls Try.prog 23 #[v, hxV own] w fun e w' => ∃ r, e = .returned (r) ∧ Zs w' r (belV l own) ∧ Below w.heap.size w w'
  above : ∀ (v : Value) (l : List Vw) (own : Hx) (w : World), Vs w v l → l.length ≤ 1000 → Calls Try.prog 25 #[v, hxV own] w fun e w' => ∃ r, e = .returned (r) ∧ Zs w' r (aboV l own) ∧ Below w.heap.size w w'
  forget : ∀ (v : Value) (l : List Vw) (lv : Lv) (keep : Int) (w : World), Vs w v l → l.length ≤ 1000 → Calls Try.prog 27 #[v, .agg #[.int .i64 lv.1, .int .i64 lv.2.1, .int .i64 lv.2.2], .int .i64 keep] w fun e w' => ∃ r, e = .returned (r) ∧ Vs w' r (forL l lv keep) ∧ Below w.heap.size w w'
  lowest : ∀ (v : Value) (l : List Vw) (w : World), Vs w v l → l.length ≤ 1000 → Calls Try.prog 20 #[v] w fun e w' => e = .returned (.tuple #[vwV (lowF l).1, .bool (lowF l).2]) ∧ Below w.heap.size w w'
theorem rset_fix (v : Value) (l : List Vw) (id : Int) (h : Hx) (w : World) (hv : Vs w v l) (hl : l.length ≤ 1000) : Calls Try.prog 13 #[v, .int .i64 id, hxV h] w fun e w' => ∃ r, e = .returned (.tuple #[r, .int .i64 (setE l id h)]) ∧ Vs w' r (setL l id h) ∧ Below w.heap.size w w' := by
  refine (rvset_any v l id h w hv (by omega)).mono ?_
  rintro e w' ⟨⟨a, c, rfl, ho⟩, hb⟩
  exact ⟨_, rfl, ho.vs, hb⟩
theorem rdrop_fix (v : Value) (l : List Vw) (id : Int) (w : World) (hv : Vs w v l) (hl : l.length ≤ 1000) : Calls Try.prog 15 #[v, .int .i64 id] w fun e w' => ∃ r, e = .returned (.tuple #[r, .int .i64 (dropE l id)]) ∧ Vs w' r (dropL l id) ∧ Below w.heap.size w w' := by
  refine (rvdrop_any v l id w hv (by omega)).mono ?_
  rintro e w' ⟨⟨a, c, rfl, ho⟩, hb⟩
  exact ⟨_, rfl, ho.vs, hb⟩
theorem bel_len (l : List Vw) (own : Hx) : (belV l own).length ≤ l.length := by
  unfold belV
  rw [List.length_map]
  have h1 := vord_len (belF l own) _ (Nat.le_refl _)
  rw [List.take_length] at h1
  rw [h1]
  exact belF_le l own
theorem abo_len (l : List Vw) (own : Hx) : (aboV l own).length ≤ l.length := by
  unfold aboV
  rw [List.length_map]
  have h1 := vord_len (aboF l own) _ (Nat.le_refl _)
  rw [List.take_length] at h1
  rw [h1]
  exact aboF_le l own
theorem rbelow_fix (v : Value) (l : List Vw) (own : Hx) (w : World) (hv : Vs w v l) (hl : l.length ≤ 1000) : Calls Try.prog 24 #[v, hxV own] w fun e w' => ∃ r, e = .returned (r) ∧ Zs w' r (belV l own) ∧ Below w.heap.size w w' := by
  refine (rvbel_any v l own w hv (by omega)).mono ?_
  rintro e w' ⟨⟨a, c, rfl, ho⟩, hb⟩
  exact ⟨_, rfl, ho.zs (by first | exact Nat.le_trans (bel_len l own) (by omega) | exact Nat.le_trans (abo_len l own) (by omega)), hb⟩
theorem rabove_fix (v : Value) (l : List Vw) (own : Hx) (w : World) (hv : Vs w v l) (hl : l.length ≤ 1000) : Calls Try.prog 26 #[v, hxV own] w fun e w' => ∃ r, e = .returned (r) ∧ Zs w' r (aboV l own) ∧ Below w.heap.size w w' := by
  refine (rvabo_any v l own w hv (by omega)).mono ?_
  rintro e w' ⟨⟨a, c, rfl, ho⟩, hb⟩
  exact ⟨_, rfl, ho.zs (by first | exact Nat.le_trans (bel_len l own) (by omega) | exact Nat.le_trans (abo_len l own) (by omega)), hb⟩
theorem rforget_fix (v : Value) (l : List Vw) (lv : Lv) (keep : Int) (w : World) (hv : Vs w v l) (hl : l.length ≤ 1000) : Calls Try.prog 28 #[v, .agg #[.int .i64 lv.1, .int .i64 lv.2.1, .int .i64 lv.2.2], .int .i64 keep] w fun e w' => ∃ r, e = .returned (r) ∧ Vs w' r (forL l lv keep) ∧ Below w.heap.size w w' := by
  refine (rvfor_any v l lv keep w hv (by omega)).mono ?_
  rintro e w' ⟨⟨a, c, rfl, ho⟩, hb⟩
  exact ⟨_, rfl, ho.vs, hb⟩
def aw1 : Vw := (1, (false, 0, 0, 0, 2, 1))
def aw3 : Vw := (3, (false, 0, 0, 0, 1, 3))
def aw5 : Vw := (5, (true, 0, 0, 0, 0, 5))
def aw4 : Vw := (4, (false, 0, 0, 0, 0, 4))
theorem aw_set : setE [aw1, aw3, aw5] 4 aw4.2 = 0 ∧ setL [aw1, aw3, aw5] 4 aw4.2 = [aw1, aw3, aw4, aw5] := by
  have h1 : VOk [aw1, aw3, aw5] ∧ VOk (rawS 4 aw4.2 [aw1, aw3, aw5]) := by decide
  unfold setE setL
  rw [if_pos h1, if_pos h1]
  exact ⟨rfl, by decide⟩
theorem aw_low : lowF [aw1, aw3, aw4, aw5] = (aw4, true) := by decide
theorem aw_bel : belV [aw1, aw3, aw5] (false, 0, 0, 0, 3, 4) = [3, 1] := by decide
def awC : Array Value := #[.int .i64 1, .bool false, .int .i64 0, .int .i64 0, .int .i64 0, .int .i64 2, .int .i64 1, .int .i64 3, .bool false, .int .i64 0, .int .i64 0, .int .i64 0, .int .i64 1, .int .i64 3, .int .i64 5, .bool true, .int .i64 0, .int .i64 0, .int .i64 0, .int .i64 0, .int .i64 5]
theorem vs_aw (w : World) : Vs (w.alloc (.cells awC 40)) (.slice (some ⟨w.heap.size, 0, none⟩) 3 3) [aw1, aw3, aw5] := by
  refine Or.inr ⟨w.heap.size, 0, 3, rfl, Nat.le_refl _, by simp, fun i hi => ?_⟩
  match i, hi with
  | 0, _ => exact seven_gc (by refine ⟨?_, ?_, ?_, ?_, ?_, ?_, ?_⟩ <;> simp [awC] <;> rfl)
  | 1, _ => exact seven_gc (by refine ⟨?_, ?_, ?_, ?_, ?_, ?_, ?_⟩ <;> simp [awC] <;> rfl)
  | 2, _ => exact seven_gc (by refine ⟨?_, ?_, ?_, ?_, ?_, ?_, ?_⟩ <;> simp [awC] <;> rfl)
end Go.Proofs.Ytahhhegknmiinaa
