/- A packet's bytes: the reference's Bytes; a string as bytes. No conditions but on lengths. -/
import Derived.Test.YteleedpiadcfjaaPkt
import Derived.Test.YteleedpiadcfjaaBbg
import Derived.Test.YteleedpiadcfjaaAwake
import Derived.Test.YteleedpiadcfjaaGrw
import Derived.Lib.ConvBytes
namespace Go.Proofs.Yteleedpiadcfjaa
set_option maxRecDepth 100000
open Go.RowKit Go.Lib

/-- A string's bytes. -/
def bl (x : ByteArray) : List Int := x.data.toList.map fun b => (b.toNat : Int)
theorem bl_len (x : ByteArray) : (bl x).length = x.size := by unfold bl; rw [List.length_map, Array.length_toList]; rfl
theorem bl_byt (x : ByteArray) : ∀ v ∈ bl x, 0 ≤ v ∧ v < 256 := fun v hv => by
  obtain ⟨b, _, rfl⟩ := List.mem_map.1 hv
  have := b.toNat_lt
  omega
theorem bel_bytes (w : World) (x : ByteArray) : Below w.heap.size w (bytesWorld w 5 x) :=
  ⟨rfl, rfl, rfl, by rw [bytesWorld_size]; omega, fun k hk => bytesWorld_at_old w 5 x k hk⟩
theorem bs_bytes (w : World) (x : ByteArray) (h : x.size ≤ 9223372036854775807) : Bs (bytesWorld w 5 x) (.slice (some ⟨w.heap.size, 0, none⟩) x.size (grownCap w x.size 0 5)) (bl x) := by
  refine ⟨bl_byt x, by rw [bl_len]; exact h, .inr ⟨w.heap.size, 0, _, by rw [bl_len], by rw [bl_len]; exact grownCap_ge w x.size 0 5, fun i hi => ?_⟩⟩
  rw [bl_len] at hi
  rw [Nat.zero_add, bytesWorld_cell w 5 x i hi]
  simp [bl, List.getD]
  cases x.data[i]? <;> rfl
theorem conv_bytes (x : ByteArray) (w : World) : (convert 9 24 (.string x)).run Try.prog w = .ok (.slice (some ⟨w.heap.size, 0, none⟩) x.size (grownCap w x.size 0 5)) (bytesWorld w 5 x) :=
  _root_.Go.Lib.run_convert_string_bytes w 9 24 5 x Try.underlying9 Try.underlying24 Try.underlying5
theorem both2_big {w : World} {v1 v2 : Value} {x1 x2 : List Int} (h1 : Bs w v1 x1) (h2 : Bs w v2 x2) (T : TypeId) (tot : x1.length + x2.length ≤ 5000) :
    Calls Try.prog 17 #[.slice (some ⟨w.heap.size, 0, none⟩) 2 2] (w.alloc (.cells #[v1, v2] T)) (RetOwn (x1 ++ x2) (w.alloc (.cells #[v1, v2] T))) := by
  have h := both_big w.heap.size [v1, v2] [x1, x2] (w.alloc (.cells #[v1, v2] T)) rfl (cell_lit w [v1, v2] T) (fun i hi => by
    have : i = 0 ∨ i = 1 := by simp at hi; omega
    rcases this with rfl | rfl
    · exact Bs_alloc h1 _
    · exact Bs_alloc h2 _) (by simp; omega) (by simp)
  simpa using h

/-! ### A packet's bytes -/
def hdB (s d t n k : Int) : List Int := [s, d, t, n / 256, n % 256, k / 256, k % 256]
def pkB (s d t n : Int) (x : ByteArray) : List Int := hdB s d t n x.size ++ bl x
theorem hd_byt {s d t n : Int} {x : ByteArray} (h : PkOk s d t n x) : ∀ v ∈ hdB s d t n x.size, 0 ≤ v ∧ v < 256 := fun v hv => by
  obtain ⟨h1, h2, h3, h4, h5⟩ := h
  simp only [hdB, List.mem_cons, List.not_mem_nil, or_false] at hv
  rcases hv with rfl | rfl | rfl | rfl | rfl | rfl | rfl <;> omega
theorem pkB_len (s d t n : Int) (x : ByteArray) : (pkB s d t n x).length = 7 + x.size := by
  unfold pkB; rw [List.length_append, bl_len]; rfl
theorem pkB_byt {s d t n : Int} {x : ByteArray} (h : PkOk s d t n x) : ∀ v ∈ pkB s d t n x, 0 ≤ v ∧ v < 256 := fun v hv => by
  rcases List.mem_append.1 hv with h1 | h1
  · exact hd_byt h v h1
  · exact bl_byt x v h1
theorem rpbytes_no (s d t n : Int) (x : ByteArray) (w : World) (h : ¬ PkOk s d t n x) :
    Calls Try.prog 9 #[.agg #[.int .i64 s, .int .i64 d, .int .i64 t, .int .i64 n, .string x]] w fun e w' => e = .returned (.tuple #[.slice none 0 0, .int .i64 1]) ∧ Below w.heap.size w w' := by
  have cR := fun W => rpright_fix s d t n x false ⟨fun h' => (by cases h'), fun h' => absurd h' h⟩ W
  have HB : Hid (Below w.heap.size w (w.alloc (.cells #[.int .i64 s, .int .i64 d, .int .i64 t, .int .i64 n, .string x] 23))) := (Below.refl _ w).alloc (Nat.le_refl _) _
  go_enter Try.func9, Try.ntmps9
  go_wp2_with fail
  refine (cR _).mono ?_
  rintro e V1 ⟨rfl, hb⟩
  have HB2 := Lib.hid (HB.out.trans (hb.mono HB.out.size))
  clear hb cR
  go_wp2_with fail
  go_ret2
  exact ⟨rfl, HB2.out⟩
set_option maxHeartbeats 16000000 in
theorem rpbytes_ok (s d t n : Int) (x : ByteArray) (w : World) (h : PkOk s d t n x) :
    Calls Try.prog 9 #[.agg #[.int .i64 s, .int .i64 d, .int .i64 t, .int .i64 n, .string x]] w fun e w' => (∃ r, e = .returned (.tuple #[r, .int .i64 0]) ∧ w'.ownsRow w.heap.size 5 1 r (pkB s d t n x).length ((pkB s d t n x).map (Value.int .u8))) ∧ Below w.heap.size w w' := by
  have cR := fun W => rpright_fix s d t n x true ⟨fun _ => h, fun _ => rfl⟩ W
  have HB : Hid (Below w.heap.size w (w.alloc (.cells #[.int .i64 s, .int .i64 d, .int .i64 t, .int .i64 n, .string x] 23))) := (Below.refl _ w).alloc (Nat.le_refl _) _
  have OA := Lib.hid (ownp_alloc w s d t n x 23 w.heap.size rfl)
  have HBY := Lib.hid (hd_byt h)
  have hs1 : IntKind.u8.wrap s = s := by have := h.1; rw [IntKind.wrap_u8]; omega
  have hs2 : IntKind.u8.wrap d = d := by have := h.2.1; rw [IntKind.wrap_u8]; omega
  have hs3 : IntKind.u8.wrap t = t := by have := h.2.2.1; rw [IntKind.wrap_u8]; omega
  have hn := h.2.2.2.1
  have hx := h.2.2.2.2
  have ht1 : n.tdiv 256 = n / 256 := Int.tdiv_eq_ediv_of_nonneg hn.1
  have ht2 : n.tmod 256 = n % 256 := Int.tmod_eq_emod_of_nonneg hn.1
  have hx0 : (0 : Int) ≤ (x.size : Int) := Int.natCast_nonneg _
  have ht3 : (x.size : Int).tdiv 256 = (x.size : Int) / 256 := Int.tdiv_eq_ediv_of_nonneg hx0
  have ht4 : (x.size : Int).tmod 256 = (x.size : Int) % 256 := Int.tmod_eq_emod_of_nonneg hx0
  have hw1 : IntKind.i64.wrap (n / 256) = n / 256 := by rw [IntKind.wrap_i64]; omega
  have hw2 : IntKind.i64.wrap (n % 256) = n % 256 := by rw [IntKind.wrap_i64]; omega
  have hw3 : IntKind.i64.wrap ((x.size : Int) / 256) = (x.size : Int) / 256 := by rw [IntKind.wrap_i64]; omega
  have hw4 : IntKind.i64.wrap ((x.size : Int) % 256) = (x.size : Int) % 256 := by rw [IntKind.wrap_i64]; omega
  have hu1 : IntKind.u8.wrap (n / 256) = n / 256 := by rw [IntKind.wrap_u8]; omega
  have hu2 : IntKind.u8.wrap (n % 256) = n % 256 := by rw [IntKind.wrap_u8]; omega
  have hu3 : IntKind.u8.wrap ((x.size : Int) / 256) = (x.size : Int) / 256 := by rw [IntKind.wrap_u8]; omega
  have hu4 : IntKind.u8.wrap ((x.size : Int) % 256) = (x.size : Int) % 256 := by rw [IntKind.wrap_u8]; omega
  have hcv := fun W => conv_bytes x W
  have HX := Lib.hid hx
  clear h hn hx hx0
  go_enter Try.func9, Try.ntmps9
  go_wp2_with fail
  refine (cR _).mono ?_
  rintro e V1 ⟨rfl, hb⟩
  replace OA := Lib.hid (OA.out.below hb)
  have HB2 := Lib.hid (HB.out.trans (hb.mono HB.out.size))
  clear hb cR
  have q5 : ∀ O, (V1.alloc O).cell? ⟨w.heap.size, 4, none⟩ = some (.string x) := fun O => (OA.out.below ((Below.refl _ V1).alloc (Nat.le_refl _) O)).1.2.2.2.2
  obtain ⟨⟨q0, q1, q2, q3, q4⟩, -⟩ := OA.out
  go_wp2_with fail
  have hb1 : Below V1.heap.size V1 (V1.alloc (.cells #[.int .u8 s, .int .u8 d, .int .u8 t, .int .u8 (n / 256), .int .u8 (n % 256), .int .u8 ((x.size : Int) / 256), .int .u8 ((x.size : Int) % 256)] 5)) := (Below.refl _ V1).alloc (Nat.le_refl _) _
  have R7 : Bs (V1.alloc (.cells #[.int .u8 s, .int .u8 d, .int .u8 t, .int .u8 (n / 256), .int .u8 (n % 256), .int .u8 ((x.size : Int) / 256), .int .u8 ((x.size : Int) % 256)] 5)) (.slice (some ⟨V1.heap.size, 0, none⟩) 7 7) (hdB s d t n x.size) := Bs_lit (hdB s d t n x.size) 5 HBY.out (by simp [hdB]) _ rfl _ rfl 7 rfl
  have hb2 := bel_bytes (V1.alloc (.cells #[.int .u8 s, .int .u8 d, .int .u8 t, .int .u8 (n / 256), .int .u8 (n % 256), .int .u8 ((x.size : Int) / 256), .int .u8 ((x.size : Int) % 256)] 5)) x
  have RX := bs_bytes (V1.alloc (.cells #[.int .u8 s, .int .u8 d, .int .u8 t, .int .u8 (n / 256), .int .u8 (n % 256), .int .u8 ((x.size : Int) / 256), .int .u8 ((x.size : Int) % 256)] 5)) x (by have := HX.out; omega)
  have R7' := Bs_below R7 hb2
  simp only [World.size_alloc] at RX
  have HB3 : Hid (Below w.heap.size w (bytesWorld (V1.alloc (.cells #[.int .u8 s, .int .u8 d, .int .u8 t, .int .u8 (n / 256), .int .u8 (n % 256), .int .u8 ((x.size : Int) / 256), .int .u8 ((x.size : Int) % 256)] 5)) 5 x)) := HB2.out.trans ((hb1.mono HB2.out.size).trans (hb2.mono (by have := HB2.out.size; simp; omega)))
  refine (both2_big R7' RX _ (by have := HX.out; rw [bl_len]; simp [hdB]; omega)).mono ?_
  rintro e V9 ⟨r9, rfl, ho, -, hb9⟩
  have HO := Lib.hid ho
  have HB9 : Hid (Below w.heap.size w V9) := (HB3.out.alloc HB3.out.size _).trans (hb9.mono (by have := HB3.out.size; simp at *; omega))
  have HS9 := HB3.out.size
  clear R7 R7' RX hb1 hb2 ho hb9 q5
  go_wp2_with fail
  go_ret2
  refine ⟨⟨_, rfl, ?_⟩, HB9.out⟩
  exact gown_mono HO.out (by have := HS9; simp; omega)
#print axioms rpbytes_ok
end Go.Proofs.Yteleedpiadcfjaa
