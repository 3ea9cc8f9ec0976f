/- Echoes and beacons: in memory, as arguments; the reference's Epoch, Own, Heard, Same. No conditions but on lengths. -/
import Derived.Test.YtcddicaebecneaaGrw
import Derived.Test.YtcddicaebecneaaRint
import Derived.Test.YtcddicaebecneaaFrm
import Derived.Test.YtcddicaebecneaaAkt
import Derived.Laws.StructEq
namespace Go.Proofs.Ytcddicaebecneaa
set_option maxRecDepth 100000
open Go.RowKit Go.WideShapes Go.ChangeShapes

/-- An echo: whose, of which epoch. -/
def ec (y : Int × Int) : List Value := [.int .i64 y.1, .int .i64 y.2]
theorem infoEC : (Try.prog.info? 51).map (fun i => (i.zero, i.size, i.bytes)) = some (some (.agg #[.int .i64 0, .int .i64 0]), 2, 16) := by kernel_rfl
theorem underES : Try.prog.underlying 32 = some (.slice 51) := by kernel_rfl
theorem underEC : Try.prog.underlying 51 = some (.struct (Try.prog.fieldsOf 51)) := by kernel_rfl
theorem underBN : Try.prog.underlying 34 = some (.struct (Try.prog.fieldsOf 34)) := by kernel_rfl
theorem cellsEC : Try.prog.cellsOf 51 = 2 := by kernel_rfl
theorem ec_ones (y : Int × Int) : ∀ u ∈ ec y, u.oneCell' = true := by
  intro u hu
  simp only [ec, List.mem_cons, List.not_mem_nil, or_false] at hu
  rcases hu with rfl | rfl <;> rfl
/-- Rows of echoes. -/
noncomputable def RE : RowT where
  α := Int × Int
  d := (0, 0)
  cl := ec
  K := 2
  T := 51
  SL := 32
  zero := .agg #[.int .i64 0, .int .i64 0]
  bytes := 16
  hcl := fun _ => rfl
  hK := by decide
  hone := ec_ones
  hSL := underES
  hinfo := infoEC
  hz := rfl
  hb := by decide
  hc := cellsEC
/-- A slice of echoes that reads as ys. -/
def Es (w : World) (v : Value) (ys : List (Int × Int)) : Prop := Gs RE w v ys
def eflat (ys : List (Int × Int)) : List Value := ys.flatMap ec
theorem Es.below {w w' : World} {v : Value} {ys : List (Int × Int)} (h : Es w v ys) (hb : Below w.heap.size w w') : Es w' v ys := Gs.below (R := RE) h hb
theorem Es.alloc {w : World} {v : Value} {ys : List (Int × Int)} (h : Es w v ys) (O : Obj) : Es (w.alloc O) v ys := Gs.alloc (R := RE) h O
theorem Es.form {w : World} {v : Value} {ys : List (Int × Int)} (h : Es w v ys) : ∃ a c, v = .slice a ys.length c := Gs.form (R := RE) h
theorem Es_nil (w : World) : Es w (.slice none 0 0) [] := Gs_nil (R := RE) w
theorem es_of {w : World} {b o : Nat} {y : Int × Int} (h : GC RE w b o y) : w.cell? ⟨b, o, none⟩ = some (.int .i64 y.1) ∧ w.cell? ⟨b, o + 1, none⟩ = some (.int .i64 y.2) := ⟨h 0 (by decide), h 1 (by decide)⟩
theorem Es.at {w : World} {a : Option Addr} {c : Nat} {ys : List (Int × Int)} (h : Es w (.slice a ys.length c) ys) {i : Nat} (hi : i < ys.length) : ∃ b off, a = some ⟨b, off, none⟩ ∧ b < w.heap.size ∧ w.cell? ⟨b, off + i * 2, none⟩ = some (.int .i64 (ys.getD i (0, 0)).1) ∧ w.cell? ⟨b, off + i * 2 + 1, none⟩ = some (.int .i64 (ys.getD i (0, 0)).2) := by
  obtain ⟨b, off, h1, h2, h3⟩ := Gs.at (R := RE) h hi
  exact ⟨b, off, h1, h2, es_of h3⟩
theorem Es.all {w : World} {b off c : Nat} {ys : List (Int × Int)} (h : Es w (.slice (some ⟨b, off, none⟩) ys.length c) ys) {i : Nat} (hi : i < ys.length) : b < w.heap.size ∧ w.cell? ⟨b, off + i * 2, none⟩ = some (.int .i64 (ys.getD i (0, 0)).1) ∧ w.cell? ⟨b, off + i * 2 + 1, none⟩ = some (.int .i64 (ys.getD i (0, 0)).2) := by
  obtain ⟨h2, h3⟩ := Gs.all (R := RE) h hi
  exact ⟨h2, es_of h3⟩
theorem erow_ext {ys zs : List (Int × Int)} (hl : ys.length = zs.length) (h : ∀ i, i < ys.length → ys.getD i (0, 0) = zs.getD i (0, 0)) : ys = zs := grow_ext (R := RE) hl h
theorem ec_form {H : Type} {enc : TypeId × Value → H} {w : World} {base n' : Nat} {spare : Nat → Bool} {held : Bool} {cs : List Value} {X : DataW H × List MemPlace} (hl2 : cs.length = 2)
    (hf : DataW.trod enc Try.prog w base spare held n' 51 cs = some X) : ∃ y : Int × Int, cs = ec y := by
  obtain ⟨c0, c1, rfl⟩ : ∃ c0 c1, cs = [c0, c1] := by
    match cs, hl2 with
    | [c0, c1], _ => exact ⟨c0, c1, rfl⟩
  clear hl2
  obtain ⟨xs, M, _, _, _, hl, hx⟩ := DataW.trod_struct underEC hf
  obtain ⟨a, rfl, _⟩ := int_cell (cell_form (j := 0) (T := 3) (O := 0) (v := c0) hl hx (by kernel_rfl) (by kernel_rfl) rfl)
  obtain ⟨b, rfl, _⟩ := int_cell (cell_form (j := 1) (T := 3) (O := 1) (v := c1) hl hx (by kernel_rfl) (by kernel_rfl) rfl)
  exact ⟨(a, b), rfl⟩
theorem earray2 {cs : Array Value} (h : cs.size = 2) : ∃ a b, cs = #[a, b] := by
  obtain ⟨l⟩ := cs
  match l, h with
  | [a, b], _ => exact ⟨a, b, rfl⟩
/-- A beacon as an argument. -/
theorem bea_form {H : Type} {enc : TypeId × Value → H} {w : World} {base b0 : Nat} {spare : Nat → Bool} {held : Bool} {r : Reach} {v : Value} {d : DataW H} {p : List MemPlace}
    (hv : Value.okWide Try.prog w r b0 34 v) (h : DataW.Trod enc Try.prog w base spare held 34 v d p) :
    ∃ (M : Int) (a : Option Addr) (cap : Nat) (ys : List (Int × Int)), v = .agg #[.int .i64 M, .slice a ys.length cap] ∧ I64 M ∧ Es w (.slice a ys.length cap) ys := by
  obtain ⟨cs, rfl, hs⟩ := okWide_struct underBN hv
  obtain ⟨c0, c1, rfl⟩ := earray2 (hs.trans (by kernel_rfl))
  obtain ⟨fuel, hf⟩ := h
  obtain ⟨xs, m, _, _, _, hl, hx⟩ := DataW.trod_struct underBN hf
  obtain ⟨M, rfl, hM⟩ := int_cell (cell_form (j := 0) (T := 3) (O := 0) (v := c0) hl hx (by kernel_rfl) (by kernel_rfl) rfl)
  obtain ⟨y1, h1⟩ := cell_form (j := 1) (T := 32) (O := 1) (v := c1) hl hx (by kernel_rfl) (by kernel_rfl) rfl
  obtain ⟨a, cap, ys, rfl, ho⟩ := gs_trod (R := RE) (fun n' cs X h1 h2 => ec_form h1 h2) h1
  exact ⟨M, a, cap, ys, rfl, hM, ho⟩
instance (n : Int) : Decidable (EpOk n) := by unfold EpOk; infer_instance
/-- The first echo of an id. -/
def hear (ys : List (Int × Int)) (id : Int) : Option Int := (ys.find? fun y => y.1 == id).map Prod.snd
theorem hear_take {ys : List (Int × Int)} {id : Int} {k : Nat} (h : ∀ i, i < k → (ys.getD i (0, 0)).1 ≠ id) (hk : k < ys.length) : hear ys id = if (ys.getD k (0, 0)).1 = id then some (ys.getD k (0, 0)).2 else hear (ys.drop (k + 1)) id := by
  induction k generalizing ys with
  | zero =>
    cases ys with
    | nil => simp at hk
    | cons y ys =>
      by_cases hy : y.1 = id
      · simp [hear, hy]
      · have hy' : (y.1 == id) = false := by simpa using hy
        simp [hear, hy, hy']
  | succ k ih =>
    cases ys with
    | nil => simp at hk
    | cons y ys =>
      have h0 := h 0 (by omega)
      rw [List.getD_cons_zero] at h0
      have := ih (ys := ys) (fun i hi => by have := h (i + 1) (by omega); rwa [List.getD_cons_succ] at this) (by simpa using hk)
      rw [List.getD_cons_succ, List.drop_succ_cons, ← this]
      simp [hear, h0]
theorem hear_none {ys : List (Int × Int)} {id : Int} (h : ∀ i, i < ys.length → (ys.getD i (0, 0)).1 ≠ id) : hear ys id = none := by
  unfold hear
  rw [Option.map_eq_none_iff, List.find?_eq_none]
  intro y hy
  obtain ⟨i, hi, rfl⟩ := List.mem_iff_getElem.1 hy
  have := h i hi
  simpa [List.getD, hi] using this
set_option maxHeartbeats 8000000 in
theorem rheard_any (M : Int) (v : Value) (ys : List (Int × Int)) (id : Int) (w : World) (hy : Es w v ys) (hl : ys.length ≤ 3000) :
    Calls Try.prog 34 #[.agg #[.int .i64 M, v], .int .i64 id] w fun e w' => e = .returned (.tuple #[.int .i64 ((hear ys id).getD 0), .bool (hear ys id).isSome]) ∧ Below w.heap.size w w' := by
  obtain ⟨a, c, rfl⟩ := hy.form
  have k0 : (w.alloc (.cells #[.int .i64 M, .slice a ys.length c] 34)).cell? ⟨w.heap.size, 1, none⟩ = some (.slice a ys.length c) := by simp
  have HY := Lib.hid (hy.alloc (.cells #[.int .i64 M, .slice a ys.length c] 34))
  have HB : Hid (Below w.heap.size w (w.alloc (.cells #[.int .i64 M, .slice a ys.length c] 34))) := (Below.refl _ w).alloc (Nat.le_refl _) _
  clear hy
  go_enter Try.func34, Try.ntmps34
  go_wp2_with fail
  obtain ⟨V, hV⟩ : ∃ V, w.alloc (.cells #[.int .i64 M, .slice a ys.length c] 34) = V := ⟨_, rfl⟩
  rw [hV] at k0 HY HB
  simp only [hV]
  clear hV
  go_loopw [6] (fun i wr => ∃ k : Nat, k ≤ ys.length ∧ i = .int .i64 k ∧ (∀ i, i < k → (ys.getD i (0, 0)).1 ≠ id) ∧ V = wr) (fun i _ => ys.length - (intOf i).toNat)
  case atStart => exact ⟨0, Nat.zero_le _, rfl, fun i h => absurd h (Nat.not_lt_zero _), rfl⟩
  case round =>
    obtain ⟨k, hk, rfl, hno, rfl⟩ := hrel
    have HN := Lib.hid hno
    clear hno
    by_cases hlt : k < ys.length
    · obtain ⟨b, off, rfl, hB, p0, p1⟩ := HY.out.at hlt
      have HT := Lib.hid (hear_take HN.out hlt)
      obtain ⟨⟨y1, y2⟩, hyk⟩ : ∃ y, ys.getD k (0, 0) = y := ⟨_, rfl⟩
      have HK := Lib.hid hyk
      rw [hyk] at p0 p1 HT
      simp only at p0 p1 HT
      clear hyk
      by_cases he : y1 = id
      · have he' : (y1 == id) = true := by simpa using he
        have hv : hear ys id = some y2 := by rw [HT.out, if_pos he]
        have HV := Lib.hid hv
        clear he hv
        go_wp2_with fail
        go_ret2
        exact ⟨by rw [HV.out]; rfl, HB.out⟩
      · have he' : (y1 == id) = false := by simpa using he
        have HE := Lib.hid he
        clear he
        go_wp2_with fail
        go_roundw
        case rel =>
          refine ⟨k + 1, by omega, by go_num, fun j hj => ?_, by trivial⟩
          by_cases h : j < k
          · exact HN.out j h
          · obtain rfl : j = k := by omega
            rw [HK.out]; exact HE.out
        case measure => simp [intOf]; omega
    · obtain rfl : k = ys.length := by omega
      go_wp2_with fail
      go_ret2
      exact ⟨by rw [hear_none HN.out]; rfl, HB.out⟩
end Go.Proofs.Ytcddicaebecneaa

