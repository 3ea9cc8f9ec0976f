/- Which packets are right, their hops, their bytes: the program's Check, Hop, Bytes. No conditions but on lengths. -/
import Derived.Test.YtjghebcnmoojmaaGreatU25
namespace Go.Proofs.YtjghebcnmoojmaaGreat
set_option maxRecDepth 100000
open Go.RowKit

theorem upto_fix (n m : Int) (Q : Bool) (hQ : Q = true ↔ 0 ≤ n ∧ n ≤ m) (w : World) :
  Calls Tryz.prog 137 #[.int .i64 n, .int .i64 m] w fun e w' => e = .returned (.bool Q) ∧ w = w' := by
 by_cases h0 : 0 ≤ n
 ·by_cases h1 : n ≤ m
  ·obtain rfl : Q = true := hQ.2 ⟨h0, h1⟩
   clear hQ
   go_enter Tryz.func137, Tryz.ntmps137
   go_wp2_with fail
   go_ret
   exact ⟨rfl, rfl⟩
  ·obtain rfl : Q = false := by
    cases Q with
    | false => rfl
    | true => exact absurd (hQ.1 rfl).2 h1
   have d9 : decide (n ≤ m) = false := decide_eq_false h1
   clear hQ
   go_enter Tryz.func137, Tryz.ntmps137
   go_wp2_with fail
   go_ret
   exact ⟨rfl, rfl⟩
 ·obtain rfl : Q = false := by
   cases Q with
   | false => rfl
   | true => exact absurd (hQ.1 rfl).1 h0
  have d9 : decide (0 ≤ n) = false := decide_eq_false h0
  clear hQ
  go_enter Tryz.func137, Tryz.ntmps137
  go_wp2_with fail
  go_ret
  exact ⟨rfl, rfl⟩
theorem node_fix (n : Int) (Q : Bool) (hQ : Q = true ↔ 0 ≤ n ∧ n < 64) (w : World) :
  Calls Tryz.prog 136 #[.int .i64 n] w fun e w' => e = .returned (.bool Q) ∧ w = w' := by
 have cU := upto_fix n 63 Q (hQ.trans (by omega))
 clear hQ
 go_enter Tryz.func136, Tryz.ntmps136
 go_wp2_with fail
 refine (cU _).mono ?_
 rintro e w1 ⟨rfl, hw⟩
 subst hw
 go_wp2_with fail
 go_ret
 exact ⟨rfl, rfl⟩
set_option maxHeartbeats 8000000 in
theorem kcheck_any (s d t n : Int) (x : ByteArray) (w : World) : Calls Tryz.prog 105 #[.agg #[.int .i64 s, .int .i64 d, .int .i64 t, .int .i64 n, .string x]] w fun e w' => e = .returned (.int .i64 (kP s d t n x)) ∧ Below w.heap.size w w' := by
 have HB : Hid (Below w.heap.size w (w.alloc (.cells #[.int .i64 s, .int .i64 d, .int .i64 t, .int .i64 n, .string x] 48))) := (Below.refl _ w).alloc (Nat.le_refl _) _
 by_cases h0 : 0 ≤ s ∧ s < 64
 ·skip
  by_cases h1 : 0 ≤ d ∧ d < 64
  ·skip
   by_cases h2 : 0 ≤ t ∧ t ≤ 255
   ·skip
    by_cases h3 : 0 ≤ n ∧ n ≤ 65535
    ·skip
     by_cases h4 : (x.size : Int) ≤ 256
     ·skip
      rw [show kP s d t n x = 0 from if_pos ⟨h0, h1, h2, h3, by omega⟩]
      have d9 : decide ((x.size : Int) > 256) = false := decide_eq_false (by omega)
      have c0 := fun W => node_fix s true ⟨fun _ => h0, fun _ => rfl⟩ W
      have c1 := fun W => node_fix d true ⟨fun _ => h1, fun _ => rfl⟩ W
      have c2 := fun W => upto_fix t 255 true ⟨fun _ => h2, fun _ => rfl⟩ W
      have c3 := fun W => upto_fix n 65535 true ⟨fun _ => h3, fun _ => rfl⟩ W
      clear h0 h1 h2 h3
      go_enter Tryz.func105, Tryz.ntmps105
      go_wp2_with fail
      refine (c0 _).mono ?_
      rintro e w0 ⟨rfl, hw⟩
      subst hw
      go_wp2_with fail
      refine (c1 _).mono ?_
      rintro e w1 ⟨rfl, hw⟩
      subst hw
      go_wp2_with fail
      refine (c2 _).mono ?_
      rintro e w2 ⟨rfl, hw⟩
      subst hw
      go_wp2_with fail
      refine (c3 _).mono ?_
      rintro e w3 ⟨rfl, hw⟩
      subst hw
      go_wp2_with fail
      go_ret
      exact ⟨rfl, HB.out⟩
     ·skip
      rw [show kP s d t n x = 1 from if_neg (fun h => h4 (by have := h.2.2.2.2; omega))]
      have d9 : decide ((x.size : Int) > 256) = true := decide_eq_true (by omega)
      have c0 := fun W => node_fix s true ⟨fun _ => h0, fun _ => rfl⟩ W
      have c1 := fun W => node_fix d true ⟨fun _ => h1, fun _ => rfl⟩ W
      have c2 := fun W => upto_fix t 255 true ⟨fun _ => h2, fun _ => rfl⟩ W
      have c3 := fun W => upto_fix n 65535 true ⟨fun _ => h3, fun _ => rfl⟩ W
      clear h0 h1 h2 h3
      go_enter Tryz.func105, Tryz.ntmps105
      go_wp2_with fail
      refine (c0 _).mono ?_
      rintro e w0 ⟨rfl, hw⟩
      subst hw
      go_wp2_with fail
      refine (c1 _).mono ?_
      rintro e w1 ⟨rfl, hw⟩
      subst hw
      go_wp2_with fail
      refine (c2 _).mono ?_
      rintro e w2 ⟨rfl, hw⟩
      subst hw
      go_wp2_with fail
      refine (c3 _).mono ?_
      rintro e w3 ⟨rfl, hw⟩
      subst hw
      go_wp2_with fail
      go_ret
      exact ⟨rfl, HB.out⟩
    ·skip
     rw [show kP s d t n x = 1 from if_neg (fun h => h3 h.2.2.2.1)]
     have c0 := fun W => node_fix s true ⟨fun _ => h0, fun _ => rfl⟩ W
     have c1 := fun W => node_fix d true ⟨fun _ => h1, fun _ => rfl⟩ W
     have c2 := fun W => upto_fix t 255 true ⟨fun _ => h2, fun _ => rfl⟩ W
     have c3 := fun W => upto_fix n 65535 false ⟨fun h => (by cases h), fun h => absurd h h3⟩ W
     clear h0 h1 h2 h3
     go_enter Tryz.func105, Tryz.ntmps105
     go_wp2_with fail
     refine (c0 _).mono ?_
     rintro e w0 ⟨rfl, hw⟩
     subst hw
     go_wp2_with fail
     refine (c1 _).mono ?_
     rintro e w1 ⟨rfl, hw⟩
     subst hw
     go_wp2_with fail
     refine (c2 _).mono ?_
     rintro e w2 ⟨rfl, hw⟩
     subst hw
     go_wp2_with fail
     refine (c3 _).mono ?_
     rintro e w3 ⟨rfl, hw⟩
     subst hw
     go_wp2_with fail
     go_ret
     exact ⟨rfl, HB.out⟩
   ·skip
    rw [show kP s d t n x = 1 from if_neg (fun h => h2 h.2.2.1)]
    have c0 := fun W => node_fix s true ⟨fun _ => h0, fun _ => rfl⟩ W
    have c1 := fun W => node_fix d true ⟨fun _ => h1, fun _ => rfl⟩ W
    have c2 := fun W => upto_fix t 255 false ⟨fun h => (by cases h), fun h => absurd h h2⟩ W
    clear h0 h1 h2
    go_enter Tryz.func105, Tryz.ntmps105
    go_wp2_with fail
    refine (c0 _).mono ?_
    rintro e w0 ⟨rfl, hw⟩
    subst hw
    go_wp2_with fail
    refine (c1 _).mono ?_
    rintro e w1 ⟨rfl, hw⟩
    subst hw
    go_wp2_with fail
    refine (c2 _).mono ?_
    rintro e w2 ⟨rfl, hw⟩
    subst hw
    go_wp2_with fail
    go_ret
    exact ⟨rfl, HB.out⟩
  ·skip
   rw [show kP s d t n x = 1 from if_neg (fun h => h1 h.2.1)]
   have c0 := fun W => node_fix s true ⟨fun _ => h0, fun _ => rfl⟩ W
   have c1 := fun W => node_fix d false ⟨fun h => (by cases h), fun h => absurd h h1⟩ W
   clear h0 h1
   go_enter Tryz.func105, Tryz.ntmps105
   go_wp2_with fail
   refine (c0 _).mono ?_
   rintro e w0 ⟨rfl, hw⟩
   subst hw
   go_wp2_with fail
   refine (c1 _).mono ?_
   rintro e w1 ⟨rfl, hw⟩
   subst hw
   go_wp2_with fail
   go_ret
   exact ⟨rfl, HB.out⟩
 ·skip
  rw [show kP s d t n x = 1 from if_neg (fun h => h0 h.1)]
  have c0 := fun W => node_fix s false ⟨fun h => (by cases h), fun h => absurd h h0⟩ W
  clear h0
  go_enter Tryz.func105, Tryz.ntmps105
  go_wp2_with fail
  refine (c0 _).mono ?_
  rintro e w0 ⟨rfl, hw⟩
  subst hw
  go_wp2_with fail
  go_ret
  exact ⟨rfl, HB.out⟩
theorem kbytes_no (s d t n : Int) (x : ByteArray) (w : World) (h : ¬ PkOk s d t n x) :
  Calls Tryz.prog 82 #[.agg #[.int .i64 s, .int .i64 d, .int .i64 t, .int .i64 n, .string x]] w fun e w' => e = .returned (.tuple #[.slice none 0 0, .int .i64 1]) ∧ Below w.heap.size w w' := by
 have cR := fun W => kcheck_any s d t n x W
 rw [show kP s d t n x = 1 from if_neg h] at cR
 have HB : Hid (Below w.heap.size w (w.alloc (.cells #[.int .i64 s, .int .i64 d, .int .i64 t, .int .i64 n, .string x] 48))) := (Below.refl _ w).alloc (Nat.le_refl _) _
 go_enter Tryz.func82, Tryz.ntmps82
 go_wp2_with fail
 refine (cR _).mono ?_
 rintro e V1 ⟨rfl, hb⟩
 have HB2 := Lib.hid (HB.out.trans (hb.mono HB.out.size))
 clear hb cR
 go_wp2_with fail
 go_ret2
 exact ⟨rfl, HB2.out⟩
set_option maxHeartbeats 16000000 in
theorem kbytes_ok (s d t n : Int) (x : ByteArray) (w : World) (h : PkOk s d t n x) :
  Calls Tryz.prog 82 #[.agg #[.int .i64 s, .int .i64 d, .int .i64 t, .int .i64 n, .string x]] w fun e w' => (∃ r, e = .returned (.tuple #[r, .int .i64 0]) ∧ w'.ownsRow w.heap.size 5 1 r (pkB s d t n x).length ((pkB s d t n x).map (Value.int .u8))) ∧ Below w.heap.size w w' := by
 have cR := fun W => kcheck_any s d t n x W
 rw [show kP s d t n x = 0 from if_pos h] at cR
 have HB : Hid (Below w.heap.size w (w.alloc (.cells #[.int .i64 s, .int .i64 d, .int .i64 t, .int .i64 n, .string x] 48))) := (Below.refl _ w).alloc (Nat.le_refl _) _
 have OA := Lib.hid (ownp_alloc w s d t n x 48 w.heap.size rfl)
 have HP : Hid (∀ p ∈ [(s, 1), (d, 1), (t, 1), (n, 2), ((x.size : Int), 2)], PrOk8 p) := fun p hp => by
  obtain ⟨h1, h2, h3, h4, h5⟩ := h
  simp only [List.mem_cons, List.not_mem_nil, or_false] at hp
  rcases hp with rfl | rfl | rfl | rfl | rfl
  ·exact ⟨⟨h1.1, show s < 256 * 1 by omega⟩, (by decide : 1 ≤ 1), (by decide : 1 ≤ 7)⟩
  ·exact ⟨⟨h2.1, show d < 256 * 1 by omega⟩, (by decide : 1 ≤ 1), (by decide : 1 ≤ 7)⟩
  ·exact ⟨⟨h3.1, show t < 256 * 1 by omega⟩, (by decide : 1 ≤ 1), (by decide : 1 ≤ 7)⟩
  ·exact ⟨⟨h4.1, show n < 256 * (256 * 1) by omega⟩, (by decide : 1 ≤ 2), (by decide : 2 ≤ 7)⟩
  ·exact ⟨⟨Int.natCast_nonneg _, show (x.size : Int) < 256 * (256 * 1) by omega⟩, (by decide : 1 ≤ 2), (by decide : 2 ≤ 7)⟩
 have HD : Hid (prB [(s, 1), (d, 1), (t, 1), (n, 2), ((x.size : Int), 2)] = hdB s d t n x.size) := by
  obtain ⟨h1, h2, h3, h4, h5⟩ := h
  have e := hd_lo (s := s) (d := d) (t := t) (n := n) (k := (x.size : Int)) (by omega) (by omega) h3 h4 ⟨Int.natCast_nonneg _, by omega⟩ []
  rw [List.append_nil] at e
  show _ = _
  rw [e]
  simp [prB]
 have HX := Lib.hid h.2.2.2.2
 clear h
 go_enter Tryz.func82, Tryz.ntmps82
 go_wp2_with fail
 refine (cR _).mono ?_
 rintro e V1 ⟨rfl, hb⟩
 replace OA := Lib.hid (OA.out.below hb)
 have HB2 := Lib.hid (HB.out.trans (hb.mono HB.out.size))
 clear hb cR
 obtain ⟨⟨q0, q1, q2, q3, q4⟩, -⟩ := OA.out
 have hal : Below V1.heap.size V1 (V1.alloc (.cells #[.int .i64 s, .int .i64 1, .int .i64 d, .int .i64 1, .int .i64 t, .int .i64 1, .int .i64 n, .int .i64 2, .int .i64 (x.size : Int), .int .i64 2] 154)) := (Below.refl _ V1).alloc (Nat.le_refl _) _
 have hps : Prs (V1.alloc (.cells #[.int .i64 s, .int .i64 1, .int .i64 d, .int .i64 1, .int .i64 t, .int .i64 1, .int .i64 n, .int .i64 2, .int .i64 (x.size : Int), .int .i64 2] 154)) V1.heap.size [(s, 1), (d, 1), (t, 1), (n, 2), ((x.size : Int), 2)] := fun i hi => by
  have : i = 0 ∨ i = 1 ∨ i = 2 ∨ i = 3 ∨ i = 4 := by simp at hi; omega
  rcases this with rfl | rfl | rfl | rfl | rfl <;> simp [List.getD]
 have cW := Lib.hid (prow_any V1.heap.size _ _ hps (by simp) HP.out (by simp))
 have HA := Lib.hid hal
 clear hal hps
 go_wp2_with fail
 refine cW.out.mono ?_
 rintro e V2 ⟨r2, rfl, hr, hb⟩
 rw [HD.out] at hr
 have HB3 := Lib.hid ((HB2.out.trans (HA.out.mono HB2.out.size)).trans (hb.mono (by have := HB2.out.size; simp; omega)))
 have OA2 := Lib.hid ((OA.out.below HA.out).below hb)
 have HR := Lib.hid (gown_mono hr (show w.heap.size ≤ _ by have := HB2.out.size; simp; omega))
 clear hr hb q0 q1 q2 q3 q4 cW
 obtain ⟨⟨q0, q1, q2, q3, q4⟩, -⟩ := OA2.out
 go_wp2_with (at_builtin; (skip; refine appstr_any rfl (.tmp 29) (.tmp 31) rfl w.heap.size (hdB s d t n x.size) HR.out x rfl (by have := HX.out; simp [hdB]; omega) HB3.out.size ?_; intro v4 w4 ho hb hs; have HR4 := Lib.hid ho; have HB4 := Lib.hid (HB3.out.trans hb); clear ho hb hs))
 go_ret2
 exact ⟨⟨_, rfl, HR4.out⟩, HB4.out⟩
end Go.Proofs.YtjghebcnmoojmaaGreat
