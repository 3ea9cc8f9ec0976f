/- What the reader answers at its end, of a packet; a text that is read next. No conditions but those stated. -/
import Derived.Test.YteleedpiadcfjaaPkt
import Derived.Test.YteleedpiadcfjaaPkd
import Derived.Test.YteleedpiadcfjaaRdr
import Derived.Test.YteleedpiadcfjaaPkp
namespace Go.Proofs.Yteleedpiadcfjaa
set_option maxRecDepth 100000
open Go.RowKit

theorem Onl.then {b B : Nat} {w w1 w2 : World} (h : Onl b w w1) (h' : Below B w1 w2) (hB : w.heap.size ≤ B) : Onl b w w2 :=
  ⟨h'.os.trans h.os, h'.tape.trans h.tape, h'.output.trans h.output, Nat.le_trans h.size h'.size, fun k hk hb => (h'.block k (Nat.lt_of_lt_of_le hk hB)).trans (h.block k hk hb)⟩
theorem OwnP.onl {w w' : World} {b g : Nat} {s d t n : Int} {x : ByteArray} (h : OwnP w g s d t n x) (ho : Onl b w w') (hg : g ≠ b) : OwnP w' g s d t n x := by
  obtain ⟨⟨h0, h1, h2, h3, h4⟩, hf⟩ := h
  have hl := World.block_lt_of_cell? w _ h0
  have f : ∀ {j : Nat} {v : Value}, w.cell? ⟨g, j, none⟩ = some v → w'.cell? ⟨g, j, none⟩ = some v := fun {j v} h => (ho.cell (p := ⟨g, j, none⟩) hg hl).trans h
  exact ⟨⟨f h0, f h1, f h2, f h3, f h4⟩, fun j => (ho.frozen (p := ⟨g, j, none⟩) hg hl).trans (hf j)⟩
theorem OwnP.set4 {w : World} {b : Nat} {s d t n : Int} {x : ByteArray} (h : OwnP w b s d t n x) (x' : ByteArray) : OwnP (w.setCell ⟨b, 4, none⟩ (.string x')) b s d t n x' := by
  obtain ⟨⟨h0, h1, h2, h3, h4⟩, hf⟩ := h
  refine ⟨⟨?_, ?_, ?_, ?_, ?_⟩, fun j => ?_⟩ <;> simp [go_sem, hf, h0, h1, h2, h3, h4]
set_option maxHeartbeats 16000000 in
theorem pdone_err (b : Nat) (s d t n : Int) (x : ByteArray) (ok : Bool) (at' e0 e1 : Int) (w : World) (h : Rd w b at' e0) (hn : needE e0 ok = e1) (he : e1 ≠ 0) :
    Calls Try.prog 27 #[.pointer (some ⟨b, 0, none⟩), .agg #[.int .i64 s, .int .i64 d, .int .i64 t, .int .i64 n, .string x], .bool ok] w fun e w' => e = .returned (.tuple #[.agg #[.int .i64 0, .int .i64 0, .int .i64 0, .int .i64 0, .string ⟨#[]⟩], .int .i64 0, .int .i64 e1]) ∧ Onl b w w' := by
  have hne : (e1 == 0) = false := by simpa using he
  have hlt := World.block_lt_of_cell? w _ h.1
  have hb0 : Below w.heap.size w ((w.alloc (.cells #[.int .i64 s, .int .i64 d, .int .i64 t, .int .i64 n, .string x] 23)).alloc (.cells #[.int .i64 0, .int .i64 0, .int .i64 0, .int .i64 0, .string ⟨#[]⟩] 23)) := ((Below.refl _ w).alloc (Nat.le_refl _) _).alloc (by simp) _
  have cN := need_any b ok at' e0 ((w.alloc (.cells #[.int .i64 s, .int .i64 d, .int .i64 t, .int .i64 n, .string x] 23)).alloc (.cells #[.int .i64 0, .int .i64 0, .int .i64 0, .int .i64 0, .string ⟨#[]⟩] 23)) (h.below hb0)
  rw [hn] at cN
  have OB := Lib.hid (ownp_alloc (w.alloc (.cells #[.int .i64 s, .int .i64 d, .int .i64 t, .int .i64 n, .string x] 23)) 0 0 0 0 ⟨#[]⟩ 23 (w.heap.size + 1) (by simp))
  have HB := Lib.hid (Onl.of_below b hb0)
  have HL : Hid (b < w.heap.size) := hlt
  clear h hn he hlt hb0
  go_enter Try.func27, Try.ntmps27
  go_wp2_with (go_at_call 23; refine cN.mono ?_; rintro e w1 ⟨rfl, hR, hO⟩; replace OB := Lib.hid (OB.out.onl hO (by have := HL.out; omega)); replace HB := Lib.hid (HB.out.trans hO); have R := Lib.hid hR; clear hO hR; obtain ⟨z0, z1, zf⟩ := R.out)
  have OB2 := Lib.hid (OB.out.below ((Below.refl _ _).alloc (Nat.le_refl _) (.cells #[.int .i64 0, .int .i64 0, .int .i64 0, .int .i64 0, .string ⟨#[]⟩] 23)))
  have OZ := Lib.hid (ownp_alloc w1 0 0 0 0 ⟨#[]⟩ 23 w1.heap.size rfl)
  have R2 := Lib.hid (R.out.alloc (.cells #[.int .i64 0, .int .i64 0, .int .i64 0, .int .i64 0, .string ⟨#[]⟩] 23))
  have HB2 := Lib.hid (HB.out.alloc (.cells #[.int .i64 0, .int .i64 0, .int .i64 0, .int .i64 0, .string ⟨#[]⟩] 23))
  have hne2 : Hid (w.heap.size + 1 < w1.heap.size) := OB.out.lt
  clear z0 z1 zf R OB HB
  generalize w1.alloc (.cells #[.int .i64 0, .int .i64 0, .int .i64 0, .int .i64 0, .string ⟨#[]⟩] 23) = V at *
  obtain ⟨z0, z1, zf⟩ := R2.out
  obtain ⟨⟨q0, q1, q2, q3, q4⟩, qf⟩ := OZ.out
  obtain ⟨⟨u0, u1, u2, u3, u4⟩, uf⟩ := OB2.out
  have hd1 : b ≠ w.heap.size + 1 := by have := HL.out; omega
  have hd2 : w.heap.size + 1 ≠ b := by have := HL.out; omega
  go_region
  go_wp2_with fail
  have hs := (OB2.out.set 0 0 0 0 ⟨#[]⟩).1
  have hbs := bel_put5 (B := w.heap.size) (Below.refl _ V) (b := w.heap.size + 1) (by omega) 0 0 0 0 ⟨#[]⟩
  simp only [put5] at hs hbs
  generalize (((((V.setCell ⟨(w.heap.size + 1), 0, none⟩ (.int .i64 0)).setCell ⟨(w.heap.size + 1), 1, none⟩ (.int .i64 0)).setCell ⟨(w.heap.size + 1), 2, none⟩ (.int .i64 0)).setCell ⟨(w.heap.size + 1), 3, none⟩ (.int .i64 0)).setCell ⟨(w.heap.size + 1), 4, none⟩ (.string ⟨#[]⟩)) = W5 at *
  obtain ⟨s0_, s1_, s2_, s3_, s4_⟩ := hs
  exact bodyPost_ret (v := .tuple #[.agg #[.int .i64 0, .int .i64 0, .int .i64 0, .int .i64 0, .string ⟨#[]⟩], .int .i64 0, .int .i64 e1]) (by simp [results, Try.results27, go_sem, s0_, s1_, s2_, s3_, s4_]) rfl ⟨rfl, HB2.out.then hbs.drew (Nat.le_refl _)⟩
set_option maxHeartbeats 16000000 in
theorem pdone_ok (b : Nat) (s d t n : Int) (x : ByteArray) (at' : Int) (w : World) (h : Rd w b at' 0) :
    Calls Try.prog 27 #[.pointer (some ⟨b, 0, none⟩), .agg #[.int .i64 s, .int .i64 d, .int .i64 t, .int .i64 n, .string x], .bool true] w fun e w' => e = .returned (.tuple #[.agg #[.int .i64 s, .int .i64 d, .int .i64 t, .int .i64 n, .string x], .int .i64 at', .int .i64 0]) ∧ Onl b w w' := by
  have hlt := World.block_lt_of_cell? w _ h.1
  have hb0 : Below w.heap.size w ((w.alloc (.cells #[.int .i64 s, .int .i64 d, .int .i64 t, .int .i64 n, .string x] 23)).alloc (.cells #[.int .i64 0, .int .i64 0, .int .i64 0, .int .i64 0, .string ⟨#[]⟩] 23)) := ((Below.refl _ w).alloc (Nat.le_refl _) _).alloc (by simp) _
  have cN := need_any b true at' 0 ((w.alloc (.cells #[.int .i64 s, .int .i64 d, .int .i64 t, .int .i64 n, .string x] 23)).alloc (.cells #[.int .i64 0, .int .i64 0, .int .i64 0, .int .i64 0, .string ⟨#[]⟩] 23)) (h.below hb0)
  rw [show needE 0 true = 0 from rfl] at cN
  have OA := Lib.hid ((ownp_alloc w s d t n x 23 w.heap.size rfl).below ((Below.refl _ _).alloc (Nat.le_refl _) (.cells #[.int .i64 0, .int .i64 0, .int .i64 0, .int .i64 0, .string ⟨#[]⟩] 23)))
  have OB := Lib.hid (ownp_alloc (w.alloc (.cells #[.int .i64 s, .int .i64 d, .int .i64 t, .int .i64 n, .string x] 23)) 0 0 0 0 ⟨#[]⟩ 23 (w.heap.size + 1) (by simp))
  have HB := Lib.hid (Onl.of_below b hb0)
  have HL : Hid (b < w.heap.size) := hlt
  clear h hlt hb0
  go_enter Try.func27, Try.ntmps27
  go_wp2_with (go_at_call 23; refine cN.mono ?_; rintro e w1 ⟨rfl, hR, hO⟩; replace OB := Lib.hid (OB.out.onl hO (by have := HL.out; omega)); replace OA := Lib.hid (OA.out.onl hO (by have := HL.out; omega)); replace HB := Lib.hid (HB.out.trans hO); have R := Lib.hid hR; clear hO hR; obtain ⟨z0, z1, zf⟩ := R.out)
  obtain ⟨⟨q0, q1, q2, q3, q4⟩, qf⟩ := OA.out
  obtain ⟨⟨u0, u1, u2, u3, u4⟩, uf⟩ := OB.out
  have hd1 : b ≠ w.heap.size + 1 := by have := HL.out; omega
  have hd2 : w.heap.size + 1 ≠ b := by have := HL.out; omega
  go_region
  go_wp2_with fail
  have hs := (OB.out.set s d t n x).1
  have hbs := bel_put5 (B := w.heap.size) (Below.refl _ w1) (b := w.heap.size + 1) (by omega) s d t n x
  simp only [put5] at hs hbs
  generalize (((((w1.setCell ⟨(w.heap.size + 1), 0, none⟩ (.int .i64 s)).setCell ⟨(w.heap.size + 1), 1, none⟩ (.int .i64 d)).setCell ⟨(w.heap.size + 1), 2, none⟩ (.int .i64 t)).setCell ⟨(w.heap.size + 1), 3, none⟩ (.int .i64 n)).setCell ⟨(w.heap.size + 1), 4, none⟩ (.string x)) = W5 at *
  obtain ⟨s0_, s1_, s2_, s3_, s4_⟩ := hs
  exact bodyPost_ret (v := .tuple #[.agg #[.int .i64 s, .int .i64 d, .int .i64 t, .int .i64 n, .string x], .int .i64 at', .int .i64 0]) (by simp [results, Try.results27, go_sem, s0_, s1_, s2_, s3_, s4_]) rfl ⟨rfl, HB.out.then hbs.drew (Nat.le_refl _)⟩

/-! ### A text -/
def textS (xs : List Int) (k n : Int) : ByteArray × Int × Int := if (xs.length : Int) - k < n then (⟨#[]⟩, 0, 6) else (sub xs k n, k + n, 0)
def nextS (xs : List Int) (n : Int) (s : Int × Int) : ByteArray × Int × Int := if s.2 = 0 then textS xs s.1 n else (⟨#[]⟩, s)
set_option maxHeartbeats 8000000 in
theorem text_any (v : Value) (xs : List Int) (k n : Int) (w : World) (hv : Bs w v xs) (hk : 1 ≤ k ∧ k ≤ xs.length) (hn : 0 ≤ n ∧ n ≤ 65535) :
    Calls Try.prog 26 #[v, .int .i64 k, .int .i64 n] w fun e w' => e = .returned (.tuple #[.string (textS xs k n).1, .int .i64 (textS xs k n).2.1, .int .i64 (textS xs k n).2.2]) ∧ w = w' := by
  obtain ⟨a, l, c, rfl⟩ := Bs_form hv
  obtain ⟨rfl, hlc⟩ := Bs_len2 hv
  have hsw : IntKind.i64.wrap ((xs.length : Int) - k) = (xs.length : Int) - k := by rw [IntKind.wrap_i64]; have := hv.2.1; omega
  by_cases k2 : (xs.length : Int) - k < n
  · have k2' : decide ((xs.length : Int) - k < n) = true := decide_eq_true k2
    rw [show textS xs k n = (⟨#[]⟩, 0, 6) from if_pos k2]
    clear hv hk hn hlc
    go_enter Try.func26, Try.ntmps26
    go_wp2_with fail
    go_ret3
    exact ⟨rfl, rfl⟩
  · have k2' : decide ((xs.length : Int) - k < n) = false := decide_eq_false k2
    rw [show textS xs k n = (sub xs k n, k + n, 0) from if_neg k2]
    obtain ⟨p, rfl⟩ : ∃ p : Nat, k = p := ⟨k.toNat, by omega⟩
    obtain ⟨m, rfl⟩ : ∃ m : Nat, n = m := ⟨n.toNat, by omega⟩
    have hpk : p + m ≤ xs.length := by omega
    have h7 : 1 ≤ xs.length := by omega
    obtain ⟨b, o, rfl, hcap⟩ : ∃ b o, a = some ⟨b, o, none⟩ ∧ xs.length ≤ c := by
      obtain ⟨_, _, ⟨a', c', h1, _, rfl⟩ | ⟨b, o, c', h1, h2, _⟩⟩ := hv
      · simp at h7
      · simp only [Value.slice.injEq, true_and] at h1; exact ⟨b, o, h1.1, by omega⟩
    have HW9 := Lib.hid (bs_win hv p m hpk hcap)
    obtain ⟨X, hX⟩ : ∃ X, strOfNums ((xs.drop p).take m) = X := ⟨_, rfl⟩
    have hsub : sub xs p m = X := by rw [← hX]; rfl
    rw [hsub]
    obtain ⟨A9, hA9⟩ : ∃ A9, (if c = p then (some ⟨b, o, none⟩ : Option Addr) else some ⟨b, o + p, none⟩) = A9 := ⟨_, rfl⟩
    rw [hA9] at HW9
    have hcv : (convert 24 9 (.slice A9 m (c - p))).run Try.prog w = .ok (.string X) w := by rw [← hX]; exact Bs_conv HW9.out
    have hwk : IntKind.i64.wrap ((p : Int) + (m : Int)) = (p : Int) + (m : Int) := by rw [IntKind.wrap_i64]; have := hv.2.1; omega
    have hs0 : (0 : Int) ≤ (p : Int) := Int.natCast_nonneg _
    have hs1 : (p : Int) ≤ (p : Int) + (m : Int) := by omega
    have hs2 : (p : Int) + (m : Int) ≤ (c : Int) := by omega
    have hs3 : ((p : Int)).toNat = p := Int.toNat_natCast p
    have hs4 : ((p : Int) + (m : Int)).toNat = p + m := by omega
    have hs5 : p + m - p = m := by omega
    clear hX hsub HW9 h7 hpk hv hk hn hlc
    go_enter Try.func26, Try.ntmps26
    go_wp2_with fail
    go_ret3
    exact ⟨rfl, rfl⟩
theorem pclos_any (g : Nat) (v : Value) (xs : List Int) (k n : Int) (w : World) (hn : w.cell? ⟨g, 0, none⟩ = some (.int .i64 n)) (hv : Bs w v xs) (hk : 1 ≤ k ∧ k ≤ xs.length) (hn' : 0 ≤ n ∧ n ≤ 65535) :
    Calls Try.prog 25 #[v, .int .i64 k, .pointer (some ⟨g, 0, none⟩)] w fun e w' => e = .returned (.tuple #[.string (textS xs k n).1, .int .i64 (textS xs k n).2.1, .int .i64 (textS xs k n).2.2]) ∧ w = w' := by
  have cG := text_any v xs k n w hv hk hn'
  generalize textS xs k n = r at *
  obtain ⟨r1, r2, r3⟩ := r
  simp only at *
  obtain ⟨a, l, c, rfl⟩ := Bs_form hv
  clear hv hk hn'
  go_enter Try.func25, Try.ntmps25
  go_wp2_with (go_at_call 26; refine cG.mono ?_; rintro e w' ⟨rfl, hw⟩; subst hw)
  go_ret3
  exact ⟨rfl, rfl⟩
set_option maxHeartbeats 4000000 in
theorem nexts_any (b : Nat) (v : Value) (xs : List Int) (k e0 : Int) (g : Nat) (n : Int) (w : World) (h : Rd w b k e0) (hn : w.cell? ⟨g, 0, none⟩ = some (.int .i64 n)) (hv : Bs w v xs) (hk : e0 = 0 → (1 ≤ k ∧ k ≤ xs.length) ∧ 0 ≤ n ∧ n ≤ 65535) :
    Calls Try.prog 24 #[.pointer (some ⟨b, 0, none⟩), v, .func (Fn.func 25) #[] #[.pointer (some ⟨g, 0, none⟩)]] w fun e w' => e = .returned (.string (nextS xs n (k, e0)).1) ∧ Rd w' b (nextS xs n (k, e0)).2.1 (nextS xs n (k, e0)).2.2 ∧ Onl b w w' := by
  by_cases he : e0 = 0
  · subst he
    have cG := pclos_any g v xs k n w hn hv (hk rfl).1 (hk rfl).2
    rw [show nextS xs n (k, 0) = textS xs k n from if_pos rfl]
    generalize textS xs k n = r at *
    obtain ⟨r1, r2, r3⟩ := r
    simp only at *
    obtain ⟨a, l, c, rfl⟩ := Bs_form hv
    have R := Lib.hid h
    obtain ⟨h0, h1, hf⟩ := h
    clear hv hk
    go_enter Try.func24, Try.ntmps24
    go_wp2_with (go_at_call 25; refine cG.mono ?_; rintro e w' ⟨rfl, hw⟩; subst hw)
    go_ret
    exact ⟨rfl, R.out.set _ _, ((Onl.refl _ _).set 0 _).set 1 _⟩
  · have hne : (e0 == 0) = false := by simpa using he
    rw [show nextS xs n (k, e0) = (⟨#[]⟩, (k, e0)) from if_neg he]
    obtain ⟨a, l, c, rfl⟩ := Bs_form hv
    have R := Lib.hid h
    obtain ⟨h0, h1, hf⟩ := h
    clear hv hk he
    go_enter Try.func24, Try.ntmps24
    go_wp2_with fail
    go_ret
    exact ⟨rfl, R.out, Onl.refl _ _⟩
#print axioms nexts_any
end Go.Proofs.Yteleedpiadcfjaa
