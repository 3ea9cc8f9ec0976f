/- Batches: the reference's Right and Bytes; a batch as an argument. No conditions but on lengths. -/
import Derived.Test.YtfdjaodnmjkpcaaOsi
namespace Go.Proofs.Ytfdjaodnmjkpcaa
set_option maxRecDepth 100000
open Go.RowKit Go.Sort Go.WideShapes Go.ChangeShapes

/-- A batch that is right. -/
def BtOk (N : Int) (ys : List Ob) : Prop := (0 ≤ N ∧ N ≤ 65535) ∧ (1 ≤ ys.length ∧ ys.length ≤ 32) ∧ AllOk ys ∧ 3 + osz ys ≤ 512
instance (N : Int) (ys : List Ob) : Decidable (BtOk N ys) := by unfold BtOk; infer_instance
theorem Os.alloc {w : World} {v : Value} {ys : List Ob} (h : Os w v ys) (O : Obj) : Os (w.alloc O) v ys := h.below ((Below.refl _ _).alloc (Nat.le_refl _) O)
set_option maxHeartbeats 8000000 in
theorem right5_any (N : Int) (v : Value) (ys : List Ob) (w : World) (hy : Os w v ys) (hl : ys.length ≤ 3000) :
    Calls Try.prog 13 #[.agg #[.int .i64 N, v]] w fun e w' => e = .returned (.bool (decide (BtOk N ys))) ∧ Below w.heap.size w w' := by
  obtain ⟨a, c, rfl⟩ := hy.form
  have cS := size_any _ ys (w.alloc (.cells #[.int .i64 N, .slice a ys.length c] 24)) (hy.alloc _) hl
  have hv : sizeV ys = -1 ∧ ¬ AllOk ys ∨ sizeV ys = 3 + (osz ys : Int) ∧ AllOk ys := by
    by_cases h : AllOk ys
    · exact .inr ⟨if_pos h, h⟩
    · exact .inl ⟨if_neg h, h⟩
  have HV := Lib.hid hv
  clear hv hy
  obtain ⟨z, hz⟩ : ∃ z, sizeV ys = z := ⟨_, rfl⟩
  rw [hz] at cS HV
  clear hz
  go_enter Try.func13, Try.ntmps13
  go_wp2_with (go_at_call 30; refine cS.mono ?_; rintro e w1 ⟨rfl, hb⟩; have HB : Hid (Below w.heap.size w w1) := ((Below.refl _ w).alloc (Nat.le_refl _) _).trans (hb.mono (by simp)); clear hb)
  all_goals
    go_ret
    refine ⟨?_, by first | exact HB.out | exact (Below.refl _ w).alloc (Nat.le_refl _) _⟩
    have hv := HV.out
    first
      | exact ret_false (fun h => by obtain ⟨h1, h2, h3, h4⟩ := h; rcases hv with ⟨hv, hn⟩ | ⟨hv, hn⟩; (exact absurd h3 hn); omega)
      | exact ret_true (by rcases hv with ⟨hv, hn⟩ | ⟨hv, hn⟩; (exfalso; omega); exact ⟨by omega, by omega, hn, by omega⟩)
      | exact ret_dec ⟨fun h => by rcases hv with ⟨hv, hn⟩ | ⟨hv, hn⟩; (exfalso; omega); exact ⟨by omega, by omega, hn, by omega⟩, fun h => by obtain ⟨h1, h2, h3, h4⟩ := h; rcases hv with ⟨hv, hn⟩ | ⟨hv, hn⟩; (exact absurd h3 hn); omega⟩

/-- A batch's bytes. -/
def btB (N : Int) (ys : List Ob) : List Int := [N / 256, N % 256, (ys.length : Int)] ++ (ys.map Ob.bs).flatten
def btc (N : Int) (ys : List Ob) : Int := if BtOk N ys then 0 else 1
def btBs (N : Int) (ys : List Ob) : List Int := if BtOk N ys then btB N ys else []
theorem flat_bs (ys : List Ob) (k : Nat) (h : k < ys.length) : ((ys.take (k + 1)).map Ob.bs).flatten = ((ys.take k).map Ob.bs).flatten ++ (ys.getD k z12).bs := by
  rw [List.take_succ_eq_append_getElem h, List.map_append, List.flatten_append]
  simp [List.getD, h]
theorem bs_flat_len (ys : List Ob) : ((ys.map Ob.bs).flatten).length = osz ys := by
  simp [osz, List.length_flatten, List.map_map]
  rfl
theorem osz_take_le (ys : List Ob) (k : Nat) : osz (ys.take k) ≤ osz ys := by
  have h : osz ys = osz (ys.take k) + osz (ys.drop k) := by
    unfold osz
    rw [← List.sum_append, ← List.map_append, List.take_append_drop]
  omega
theorem obB_1 (x : Int) (n : Bool) (t o r d i p q s m : Int) : obB 1 x n t o r d i p q s m = [1, x] := rfl
theorem obB_2 (x : Int) (n : Bool) (t o r d i p q s m : Int) : obB 2 x n t o r d i p q s m = [2, x] ++ htB n t o r d i := rfl
theorem obB_3 (x : Int) (n : Bool) (t o r d i p q s m : Int) : obB 3 x n t o r d i p q s m = [3, x] ++ i8 p ++ [q, s] := rfl
theorem obB_4 (x : Int) (n : Bool) (t o r d i p q s m : Int) : obB 4 x n t o r d i p q s m = [4, x] ++ htB n t o r d i ++ [m / 256, m % 256] := rfl
theorem obB_byt {k x : Int} {n : Bool} {t o r d i p q s m : Int} (h : ObOk k x n t o r d i p q s m) : Byt (obB k x n t o r d i p q s m) := by
  have hx : 0 ≤ x ∧ x < 64 := h.2.1
  have two : ∀ y z : Int, 0 ≤ y ∧ y < 256 → 0 ≤ z ∧ z < 256 → Byt [y, z] := fun y z hy hz u hu => by
    simp at hu; rcases hu with rfl | rfl <;> assumption
  rcases kind_of h with rfl | rfl | rfl | rfl
  · rw [obB_1]; exact two _ _ (by omega) (by omega)
  · have hh : HtOk n t o r d i := by have := h.2.2.2.2.1; simpa [HgOk, hgB] using this
    rw [obB_2]; exact byt_app (two _ _ (by omega) (by omega)) (htB_byt hh)
  · have hl : HtOk false p q s 0 0 := by have := h.2.2.2.1; simpa [LvOk, lvB] using this
    have hr : RowOk p q s 0 := by rcases hl.2 with h | h; · cases h.1
                                  exact h.2
    have hq : 0 ≤ q ∧ q < 64 := hr.2.2.1
    have hs : 0 ≤ s ∧ s < 256 := by have := hr.2.2.2.1; omega
    rw [obB_3]; exact byt_app (byt_app (two _ _ (by omega) (by omega)) (i8_byt p)) (two _ _ (by omega) hs)
  · have hh : HtOk n t o r d i := by have := h.2.2.2.2.1; simpa [HgOk, hgB] using this
    have hm : 0 ≤ m ∧ m ≤ 65535 := by have := h.2.2.2.2.2; simpa [NumOk, nuB] using this
    rw [obB_4]; exact byt_app (byt_app (two _ _ (by omega) (by omega)) (htB_byt hh)) (two _ _ (by omega) (by omega))
theorem ob_byt {y : Ob} (h : y.Ok) : Byt y.bs := by
  rw [show y.bs = obB y.k y.x y.n y.t y.o y.r y.d y.i y.p y.q y.s y.m from if_pos h]
  exact obB_byt h
theorem own_lit3 (w : World) (base : Nat) (x y z : Int) (hb : base ≤ w.heap.size) (g : Nat) (hg : g = w.heap.size) : (w.alloc (.cells #[.int .u8 x, .int .u8 y, .int .u8 z] 5)).ownsRow base 5 1 (.slice (some ⟨g, 0, none⟩) 3 3) [x, y, z].length ([x, y, z].map (Value.int .u8)) := by
  subst hg
  exact World.ownsRow_lit w #[.int .u8 x, .int .u8 y, .int .u8 z] 3 hb (by unfold maxLen; omega) rfl

set_option maxHeartbeats 8000000 in
theorem bytes5_no (N : Int) (v : Value) (ys : List Ob) (w : World) (hy : Os w v ys) (hl : ys.length ≤ 3000) (h : ¬ BtOk N ys) : Calls Try.prog 10 #[.agg #[.int .i64 N, v]] w (RetB [] 1 w) := by
  obtain ⟨a, c, rfl⟩ := hy.form
  have cR := right5_any N _ ys (w.alloc (.cells #[.int .i64 N, .slice a ys.length c] 24)) (hy.alloc _) hl
  rw [decide_eq_false h] at cR
  clear h hy
  go_enter Try.func10, Try.ntmps10
  go_wp2_with (go_at_call 13; refine cR.mono ?_; rintro e w1 ⟨rfl, hb⟩; have HB : Hid (Below w.heap.size w w1) := ((Below.refl _ w).alloc (Nat.le_refl _) _).trans (hb.mono (by simp)); clear hb)
  go_ret2
  exact ⟨_, rfl, Bs_nil _, HB.out⟩
set_option maxHeartbeats 8000000 in
theorem bytes5_ok (N : Int) (v : Value) (ys : List Ob) (w : World) (hy : Os w v ys) (h : BtOk N ys) : Calls Try.prog 10 #[.agg #[.int .i64 N, v]] w (RetB (btB N ys) 0 w) := by
  obtain ⟨a, c, rfl⟩ := hy.form
  have hl : ys.length ≤ 32 := h.2.1.2
  have cR := right5_any N _ ys (w.alloc (.cells #[.int .i64 N, .slice a ys.length c] 24)) (hy.alloc _) (by omega)
  rw [decide_eq_true h] at cR
  obtain ⟨hN, hlen, hok, htot⟩ := h
  have HOK := Lib.hid hok
  have HY := Lib.hid (hy.alloc (.cells #[.int .i64 N, .slice a ys.length c] 24))
  have hq : N.tdiv 256 = N / 256 := Int.tdiv_eq_ediv_of_nonneg hN.1
  have hr : N.tmod 256 = N % 256 := Int.tmod_eq_emod_of_nonneg hN.1
  have hwq : IntKind.u8.wrap (N / 256) = N / 256 := by rw [IntKind.wrap_u8]; omega
  have hwr : IntKind.u8.wrap (N % 256) = N % 256 := by rw [IntKind.wrap_u8]; omega
  have hwl : IntKind.u8.wrap (ys.length : Int) = (ys.length : Int) := by rw [IntKind.wrap_u8]; omega
  have hwd : wrap64 (N / 256) = N / 256 := by unfold wrap64; omega
  have hwe : wrap64 (N % 256) = N % 256 := by unfold wrap64; omega
  clear hok hy
  go_enter Try.func10, Try.ntmps10
  go_wp2_with (go_at_call 13; refine cR.mono ?_; rintro e V ⟨rfl, hb⟩; have k0 : V.cell? ⟨w.heap.size, 0, none⟩ = some (.int .i64 N) := (by rw [hb.cell (p := ⟨w.heap.size, 0, none⟩) (by simp)]; simp); have k1 : V.cell? ⟨w.heap.size, 1, none⟩ = some (.slice a ys.length c) := (by rw [hb.cell (p := ⟨w.heap.size, 1, none⟩) (by simp)]; simp); replace HY := Lib.hid (HY.out.below hb); have HB : Hid (Below w.heap.size w V) := ((Below.refl _ w).alloc (Nat.le_refl _) _).trans (hb.mono (by simp)); have HL : Hid (w.heap.size < V.heap.size) := Nat.lt_of_lt_of_le (by simp) hb.size; clear hb)
  have OS : Hid ((V.alloc (.cells #[.int .u8 (N / 256), .int .u8 (N % 256), .int .u8 ys.length] 5)).ownsRow V.heap.size 5 1 (.slice (some ⟨V.heap.size, 0, none⟩) 3 3) [N / 256, N % 256, (ys.length : Int)].length ([N / 256, N % 256, (ys.length : Int)].map (Value.int .u8))) := own_lit3 V V.heap.size _ _ _ (Nat.le_refl _) _ rfl
  go_loopw [4, 5, 6, 7] (fun out i _ _ wr => ∃ k : Nat, k ≤ ys.length ∧ i = .int .i64 k ∧ wr.ownsRow V.heap.size 5 1 out ([N / 256, N % 256, (ys.length : Int)] ++ ((ys.take k).map Ob.bs).flatten).length (([N / 256, N % 256, (ys.length : Int)] ++ ((ys.take k).map Ob.bs).flatten).map (Value.int .u8)) ∧ Below V.heap.size V wr) (fun _ i _ _ _ => ys.length - (intOf i).toNat)
  case atStart => exact ⟨0, Nat.zero_le _, rfl, OS.out, (Below.refl _ V).alloc (Nat.le_refl _) _⟩
  case round =>
    obtain ⟨k, hk, rfl, hown, hbel⟩ := hrel
    have O1 := Lib.hid hown
    have B1 := Lib.hid hbel
    have c0 : wr.cell? ⟨w.heap.size, 0, none⟩ = some (.int .i64 N) := by rw [hbel.cell (p := ⟨w.heap.size, 0, none⟩) HL.out]; exact k0
    have c1 : wr.cell? ⟨w.heap.size, 1, none⟩ = some (.slice a ys.length c) := by rw [hbel.cell (p := ⟨w.heap.size, 1, none⟩) HL.out]; exact k1
    clear hown hbel
    have hzl := osz_take_le ys k
    have hzz := bs_flat_len (ys.take k)
    by_cases hlt : k < ys.length
    · obtain ⟨b, off, rfl, hB, hc⟩ := (HY.out.below B1.out).at hlt
      have HF := Lib.hid (flat_bs ys k hlt)
      have HK1 := Lib.hid (HOK.out k hlt)
      obtain ⟨y, hyk⟩ : ∃ y, ys.getD k z12 = y := ⟨_, rfl⟩
      rw [hyk] at hc HF HK1
      obtain ⟨p0, p1, p2, p3, p4, p5, p6, p7, p8, p9, p10, p11⟩ := hc.all
      have hyl := bs_le y
      clear hc hyk
      have cB : ∀ w, Calls Try.prog 25 #[.agg #[.int .i64 y.k, .int .i64 y.x, .bool y.n, .int .i64 y.t, .int .i64 y.o, .int .i64 y.r, .int .i64 y.d, .int .i64 y.i, .int .i64 y.p, .int .i64 y.q, .int .i64 y.s, .int .i64 y.m]] w (RetB y.bs 0 w) := fun w => by
        have h := orbytes_any y.k y.x y.n y.t y.o y.r y.d y.i y.p y.q y.s y.m w
        rwa [show obc y.k y.x y.n y.t y.o y.r y.d y.i y.p y.q y.s y.m = 0 from obc_ok HK1.out] at h
      go_wp2_with fail
      refine (cB _).mono ?_
      rintro e w1 ⟨r1, rfl, hr1, hb⟩
      have O2 := Lib.hid (own_below O1.out hb)
      have R2 : Hid (Bs w1 r1 y.bs) := hr1
      have B2 := Lib.hid (B1.out.trans (hb.mono B1.out.size))
      clear hb hr1
      go_wp2_with (at_builtin; refine app_any rfl (.tmp 40) (.tmp 41) rfl V.heap.size ([N / 256, N % 256, (ys.length : Int)] ++ ((ys.take k).map Ob.bs).flatten) y.bs O2.out R2.out (by simp only [List.length_append, List.length_cons, List.length_nil]; omega) B2.out.size ?_; intro v3 w3 hown3 hb3 hs3; have O3 := Lib.hid hown3; have B3 := Lib.hid (B2.out.trans hb3); clear hown3 hb3 hs3)
      go_roundw
      case rel => exact ⟨k + 1, by omega, by go_num, by rw [HF.out, ← List.append_assoc]; exact O3.out, B3.out⟩
      case measure => simp [intOf]; omega
    · obtain rfl : k = ys.length := by omega
      go_wp2_with fail
      go_ret2
      refine ⟨_, rfl, ?_, HB.out.trans (B1.out.mono HB.out.size)⟩
      have hO := O1.out
      rw [List.take_length] at hO hzz
      refine Bs_of_own hO (byt_app (fun z hz => by simp at hz; rcases hz with rfl | rfl | rfl <;> omega) (fun z hz => ?_)) (show (btB N ys).length ≤ _ by unfold btB; simp only [List.length_append, List.length_cons, List.length_nil]; omega)
      obtain ⟨l, hl1, hl2⟩ := List.mem_flatten.1 hz
      obtain ⟨y, hy1, rfl⟩ := List.mem_map.1 hl1
      obtain ⟨i, hi, hy2⟩ := List.mem_iff_getElem.1 hy1
      refine ob_byt ?_ z hl2
      have := HOK.out i hi
      rw [show ys.getD i z12 = y by simp [List.getD, hi, hy2]] at this
      exact this
theorem bytes5_any (N : Int) (v : Value) (ys : List Ob) (w : World) (hy : Os w v ys) (hl : ys.length ≤ 3000) : Calls Try.prog 10 #[.agg #[.int .i64 N, v]] w (RetB (btBs N ys) (btc N ys) w) := by
  unfold btBs btc
  by_cases h : BtOk N ys
  · rw [if_pos h, if_pos h]; exact bytes5_ok N v ys w hy h
  · rw [if_neg h, if_neg h]; exact bytes5_no N v ys w hy hl h

theorem underBT : Try.prog.underlying 24 = some (.struct (Try.prog.fieldsOf 24)) := by kernel_rfl
theorem array2' {cs : Array Value} (h : cs.size = 2) : ∃ a b, cs = #[a, b] := by
  obtain ⟨l⟩ := cs
  match l, h with
  | [a, b], _ => exact ⟨a, b, rfl⟩
#print axioms bytes5_any
end Go.Proofs.Ytfdjaodnmjkpcaa
