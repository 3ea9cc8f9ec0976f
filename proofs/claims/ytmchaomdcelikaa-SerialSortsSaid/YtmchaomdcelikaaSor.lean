/- The program's Sort. No conditions but that the row is of a hundred numbers at most. -/
import Derived.Test.YtmchaomdcelikaaInt
import Derived.Test.YtmchaomdcelikaaShelf
import Derived.Lib.OwnBridge
import Derived.Sort.Grow
import Derived.Laws.OwnMore
namespace Go.Proofs.Ytmchaomdcelikaa
open Go.RowKit Go.Sort

theorem own_below {w w' : World} {base size n : Nat} {e : TypeId} {v : Value} {xs : List Value} (h : w.ownsRow base e size v n xs) (hb : Below w.heap.size w w') : w'.ownsRow base e size v n xs := by
  obtain ⟨h1, h2 | ⟨g, cap, cur, h2, h3, h4, h5⟩⟩ := h
  · exact ⟨h1, .inl h2⟩
  · refine ⟨h1, .inr ⟨g, cap, cur, h2, h3, ?_, h5⟩⟩
    rw [hb.block g (Array.getElem?_eq_some_iff.1 h4).1]; exact h4
theorem own_grow {w : World} {os : Array Obj} {base size n : Nat} {e : TypeId} {v : Value} {xs : List Value} (h : w.ownsRow base e size v n xs) : (grow w os).ownsRow base e size v n xs := by
  obtain ⟨h1, h2 | ⟨g, cap, cur, h2, h3, h4, h5⟩⟩ := h
  · exact ⟨h1, .inl h2⟩
  · refine ⟨h1, .inr ⟨g, cap, cur, h2, h3, ?_, h5⟩⟩
    rw [heap_grow_old _ _ (Array.getElem?_eq_some_iff.1 h4).1]; exact h4
theorem below_grow {B : Nat} {w0 w : World} {os : Array Obj} (h : Below B w0 w) (hB : B ≤ w.heap.size) : Below B w0 (grow w os) :=
  ⟨h.os, h.tape, h.output, by have := h.size; simp; omega, fun k hk => by rw [heap_grow_old _ _ (by omega)]; exact h.block k hk⟩

theorem lsort_any (g cap n base : Nat) (zs : List Int) (w : World) (h : w.ownsRow base 3 1 (.slice (some ⟨g, 0, none⟩) n cap) n (zs.map (Value.int .i64))) (h9 : zs.length ≤ 1000) :
    Calls Try.prog 21 #[.slice (some ⟨g, 0, none⟩) n cap] w fun e w' => e = .returned (.tuple #[]) ∧ w'.ownsRow base 3 1 (.slice (some ⟨g, 0, none⟩) n cap) n ((zs.mergeSort fun x y => decide (x ≤ y)).map (Value.int .i64)) ∧ Below base w w' := by
  obtain ⟨g', cap', e, hbg, hgl, hncap, hcm, hlen, hH⟩ := Lib.holds_of_ownsRow h (by simp)
  cases e
  subst hlen
  refine (lib_Sort_int g 0 cap zs w hH hgl (by omega)).mono ?_
  rintro e w' ⟨rfl, nn, os, rfl⟩
  have hl : (zs.mergeSort fun x y => decide (x ≤ y)).length = zs.length := List.length_mergeSort zs
  have hc := Lib.ownsRow_putRow (q := nn) (k := zs.length) (ys := zs.mergeSort fun x y => decide (x ≤ y)) h hl (Nat.le_refl _)
  rw [List.take_of_length_le (by omega)] at hc
  refine ⟨rfl, own_grow hc, below_grow (Lib.below_putRow (Below.refl _ _) hbg) ?_⟩
  simp [putRow, mapBlock, Sort.ahead]
  omega

theorem lcompact_any (g cap n base : Nat) (zs : List Int) (w : World) (h : w.ownsRow base 3 1 (.slice (some ⟨g, 0, none⟩) n cap) n (zs.map (Value.int .i64))) (h9 : zs.length ≤ 1000) :
    Calls Try.prog 22 #[.slice (some ⟨g, 0, none⟩) n cap] w fun e w' => e = .returned (.slice (some ⟨g, 0, none⟩) (Lib.compact zs).length cap) ∧ w'.ownsRow base 3 1 (.slice (some ⟨g, 0, none⟩) (Lib.compact zs).length cap) (Lib.compact zs).length ((Lib.compact zs).map (Value.int .i64)) ∧ Below base w w' := by
  obtain ⟨g', cap', e, hbg, hgl, hncap, hcm, hlen, hH⟩ := Lib.holds_of_ownsRow h (by simp)
  cases e
  subst hlen
  refine (lib_Compact_int g 0 cap zs w hH (by omega) hncap).mono ?_
  rintro e w' ⟨rfl, q, rfl⟩
  have hle := Lib.compact_length_le zs
  have hc := Lib.ownsRow_putRow (q := q) (k := (Lib.compact zs).length) (ys := Lib.compact zs ++ List.replicate (zs.length - (Lib.compact zs).length) 0) h (by simp; omega) hle
  rw [List.take_left] at hc
  exact ⟨rfl, hc, Lib.below_putRow (Below.refl _ _) hbg⟩

/-- The row while it is being turned back: the first k are. -/
def mix (f : Int) (ds : List Int) (k : Nat) : List Int := (ds.take k).map (fun d => (f + d) % 65536) ++ ds.drop k
theorem mix_len (f : Int) (ds : List Int) (k : Nat) : (mix f ds k).length = ds.length := by simp [mix]; omega
theorem mix_at (f : Int) (ds : List Int) (k : Nat) (h : k < ds.length) : (mix f ds k)[k]? = some (ds.getD k 0) := by
  unfold mix
  rw [List.getElem?_append_right (by simp; omega)]
  simp [List.getD, h, Nat.min_eq_left (Nat.le_of_lt h)]
theorem mix_next (f : Int) (ds : List Int) (k : Nat) (h : k < ds.length) : (mix f ds k).set k ((f + ds.getD k 0) % 65536) = mix f ds (k + 1) := by
  unfold mix
  rw [List.set_append_right _ _ (by simp; omega)]
  have e : k - ((ds.take k).map fun d => (f + d) % 65536).length = 0 := by simp; omega
  have e2 : ds.getD k 0 = ds[k] := by simp [List.getD, h]
  rw [e, e2, List.take_succ_eq_append_getElem h, List.drop_eq_getElem_cons h, List.set_cons_zero, List.map_append, List.append_assoc]
  rfl
theorem mix_all (f : Int) (ds : List Int) : mix f ds ds.length = ds.map (fun d => (f + d) % 65536) := by simp [mix]
theorem map_next (f : Int) (xs : List Int) (k : Nat) (h : k < xs.length) : (xs.take k).map (far f) ++ [far f (xs.getD k 0)] = (xs.take (k + 1)).map (far f) := by
  rw [List.take_succ_eq_append_getElem h, List.map_append]
  simp [List.getD, h]

set_option maxHeartbeats 4000000 in
theorem sort_any (v : Value) (xs : List Int) (f : Int) (w : World) (hv : Zs w v xs) (h9 : xs.length ≤ 100) :
    Calls Try.prog 9 #[v, .int .i64 f] w fun e w' => ∃ u, e = .returned u ∧ Zs w' u (srt f xs) ∧ Below w.heap.size w w' := by
  obtain ⟨i0, hi, hz0, hz1, hz2⟩ := info_parts Try.info3
  obtain ⟨a, cap, rfl, -, -, hc⟩ := Zs_open hv
  clear hv
  go_enter Try.func9, Try.ntmps9
  go_wp2_with (refine wpList_make_own _ rfl _ _ 22 rfl w.heap.size 3 i0 (.int .i64 0) 1 Try.underlying22 hi hz0 hz1 .i64 .i64 xs.length xs.length rfl rfl rfl (by rw [hz2]; omega) (by unfold maxLen; omega) (Nat.le_refl _) ?_; intro w0 hown0 hgrow0; have O0 := Lib.hid hown0; have B0 := Lib.hid ((Below.refl w.heap.size w).grown hgrow0 (Nat.le_refl _) (by intro k hk; cases hk)); clear hown0 hgrow0)
  go_loopw [5, 15] (fun v i wr => ∃ k : Nat, k ≤ xs.length ∧ i = .int .i64 k ∧ wr.ownsRow w.heap.size 3 1 v ((xs.take k).map (far f)).length (((xs.take k).map (far f)).map (Value.int .i64)) ∧ v ≠ .slice none 0 0 ∧ Below w.heap.size w wr) (fun _ i _ => xs.length - (intOf i).toNat)
  case atStart => exact ⟨0, Nat.zero_le _, rfl, O0.out, by simp, B0.out⟩
  case round =>
    obtain ⟨k, hk, rfl, hown, hnn, hbel⟩ := hrel
    have O1 := Lib.hid hown
    have HB := Lib.hid hbel
    have HN := Lib.hid hnn
    by_cases hlt : k < xs.length
    · obtain ⟨b, off, rfl, hck0⟩ := hc k hlt
      have hck : wr.cell? ⟨b, off + k, none⟩ = some (.int .i64 (xs.getD k 0)) := by rw [hbel.cell (World.block_lt_of_cell? w _ hck0)]; exact hck0
      have HM := Lib.hid (map_next f xs k hlt)
      generalize xs.getD k 0 = c at *
      have hl1 : ((xs.take k).map (far f)).length = k := by simp; omega
      generalize hL : (xs.take k).map (far f) = L at *
      clear hc hck0 hown hbel hnn hL
      go_wp2_with (first
        | (go_at_call 13; refine (far_any f c _).mono ?_; rintro e w1 ⟨rfl, hb⟩; have O2 := Lib.hid (own_below O1.out hb); have HB2 := Lib.hid (HB.out.trans (hb.mono HB.out.size)); clear hb)
        | (at_builtin; refine app_any rfl (.tmp 19) (.tmp 23) rfl w.heap.size L [far f c] (O2.out.alloc _) (is_lit w1 [far f c] 3 _ 1 rfl rfl (by simp) _ rfl) (by simp; omega) (Nat.le_trans HB2.out.size (by simp)) ?_; intro v2 w2 hown2 hb2 hs2 hn2; have O3 := Lib.hid hown2; have HB3 := Lib.hid ((HB2.out.alloc HB2.out.size _).trans hb2); have HN3 := Lib.hid (fun h => HN.out (hn2 h)); clear hown2 hb2 hs2 hn2))
      go_roundw
      case rel => exact ⟨k + 1, by omega, by go_num, by rw [← HM.out]; exact O3.out, HN3.out, HB3.out⟩
      case measure => simp [intOf]; omega
    · obtain rfl : k = xs.length := by omega
      rw [List.take_length] at O1
      have hl1 : (xs.map (far f)).length = xs.length := by simp
      rw [hl1] at O1
      obtain ⟨g, cap2, rfl, hbg, -, hncap, -, -, -⟩ := Lib.holds_of_ownsRow O1.out hnn
      have hd1 := dists_len f xs
      have hd2 : Lib.compact ((xs.map (far f)).mergeSort fun x y => decide (x ≤ y)) = dists f xs := rfl
      have hd3 := Lib.hid (show srt f xs = (dists f xs).map (fun d => (f + d) % 65536) from rfl)
      have hlm : ((xs.map (far f)).mergeSort fun x y => decide (x ≤ y)).length = xs.length := by simp
      have S1 := Lib.hid (lsort_any g cap2 xs.length w.heap.size (xs.map (far f)) wr O1.out (by simp; omega))
      have S2 := Lib.hid (fun W h => lcompact_any g cap2 xs.length w.heap.size ((xs.map (far f)).mergeSort fun x y => decide (x ≤ y)) W h (by omega))
      generalize (xs.map (far f)).mergeSort (fun x y => decide (x ≤ y)) = M at *
      rw [hd2] at S2
      clear hd2 hlm hl1
      generalize dists f xs = D at *
      clear hc hown hbel hnn
      go_wp2_with (first
        | (go_at_call 21; refine S1.out.mono ?_; rintro e w1 ⟨rfl, hown1, hb1⟩; have O2 := Lib.hid hown1; have HB2 := Lib.hid (HB.out.trans hb1); clear hown1 hb1)
        | (go_at_call 22; refine (S2.out _ O2.out).mono ?_; rintro e w2 ⟨rfl, hown2, hb2⟩; have O3 := Lib.hid hown2; have HB3 := Lib.hid (HB2.out.trans hb2); clear hown2 hb2))
      go_loopw [32] (fun i wq => ∃ k : Nat, k ≤ D.length ∧ i = .int .i64 k ∧ wq.ownsRow w.heap.size 3 1 (.slice (some ⟨g, 0, none⟩) D.length cap2) D.length ((mix f D k).map (Value.int .i64)) ∧ Below w.heap.size w wq) (fun i _ => D.length - (intOf i).toNat)
      case atStart => exact ⟨0, Nat.zero_le _, rfl, O3.out, HB3.out⟩
      case round =>
        obtain ⟨k, hk, rfl, hown4, hb4⟩ := hrel
        have O4 := Lib.hid hown4
        have HB4 := Lib.hid hb4
        by_cases hlt2 : k < D.length
        · have hck : wr.cell? ⟨g, k, none⟩ = some (.int .i64 (D.getD k 0)) := by
            rw [hown4.cellAt k (by omega), List.getElem?_map, mix_at f D k hlt2]; rfl
          have hfr : wr.frozen? ⟨g, k, none⟩ = false := hown4.frozenAt k
          have HM := Lib.hid (mix_next f D k hlt2)
          generalize D.getD k 0 = c at *
          clear hown4 hb4
          go_wp2_with (go_at_call 23; refine (and_any 0 _ [f, c] _ (by omega) (by omega) (is_lit wr [f, c] 3 _ 2 rfl rfl (by simp) _ rfl)).mono ?_; rintro e w5 ⟨rfl, hw⟩; have O5 := Lib.hid (hw ▸ O4.out.alloc (.cells #[.int .i64 f, .int .i64 c] 3)); have HB5 := Lib.hid (hw ▸ HB4.out.alloc HB4.out.size (.cells #[.int .i64 f, .int .i64 c] 3)); have hfr5 : w5.frozen? ⟨g, k, none⟩ = false := O5.out.frozenAt k; have hck5 : ∃ u, w5.cell? ⟨g, k, none⟩ = some u := ⟨_, by rw [O5.out.cellAt k (by omega), List.getElem?_map, List.getElem?_eq_getElem (by rw [mix_len]; omega)]; rfl⟩; obtain ⟨u5, hck5⟩ := hck5; clear hw)
          go_roundw
          case rel =>
            have T := O5.out.stored k (.int .i64 ((f + c) % 65536))
            refine ⟨k + 1, by omega, by go_num, ?_, ?_⟩
            · rw [← HM.out, List.map_set]
              exact T.1
            · exact HB5.out.grown T.2 HB5.out.size (fun j hj => by cases hj; exact hbg)
          case measure => simp [intOf]; omega
        · obtain rfl : k = D.length := by omega
          rw [mix_all] at O4
          clear hown4 hb4
          go_wp2
          go_ret
          exact ⟨_, rfl, by rw [hd3.out]; exact Zs_of_own (base := w.heap.size) (n := D.length) O4.out (by simp; omega), HB4.out⟩
#print axioms sort_any
end Go.Proofs.Ytmchaomdcelikaa
