/- Batches: the reference's Right and Bytes; a batch as an argument. No conditions but on lengths. -/
import Derived.Test.YtfiaghfaijlfjaaGreatOsi
import Derived.Test.YtfiaghfaijlfjaaGreatOpd
import Derived.Test.YtfiaghfaijlfjaaGreatPsd
namespace Go.Proofs.YtfiaghfaijlfjaaGreat
set_option maxRecDepth 100000
open Go.RowKit Go.Sort Go.WideShapes Go.ChangeShapes

/-- A batch that is right. -/
def BtOk (N : Int) (ys : List Ob) : Prop := (0 ≤ N ∧ N ≤ 65535) ∧ (1 ≤ ys.length ∧ ys.length ≤ 32) ∧ AllOk ys ∧ 3 + osz ys ≤ 512
instance (N : Int) (ys : List Ob) : Decidable (BtOk N ys) := by unfold BtOk; infer_instance
theorem Os.alloc {w : World} {v : Value} {ys : List Ob} (h : Os w v ys) (O : Obj) : Os (w.alloc O) v ys := h.below ((Below.refl _ _).alloc (Nat.le_refl _) O)
set_option maxHeartbeats 8000000 in
theorem right5_any (N : Int) (v : Value) (ys : List Ob) (w : World) (hy : Os w v ys) (hl : ys.length ≤ 3000) :
    Calls Tryz.prog 27 #[.agg #[.int .i64 N, v]] w fun e w' => e = .returned (.bool (decide (BtOk N ys))) ∧ Below w.heap.size w w' := by
  obtain ⟨a, c, rfl⟩ := hy.form
  have cS := size_any _ ys (w.alloc (.cells #[.int .i64 N, .slice a ys.length c] 34)) (hy.alloc _) hl
  have hv : sizeV ys = -1 ∧ ¬ AllOk ys ∨ sizeV ys = 3 + (osz ys : Int) ∧ AllOk ys := by
    by_cases h : AllOk ys
    · exact .inr ⟨if_pos h, h⟩
    · exact .inl ⟨if_neg h, h⟩
  have HV := Lib.hid hv
  clear hv hy
  obtain ⟨z, hz⟩ : ∃ z, sizeV ys = z := ⟨_, rfl⟩
  rw [hz] at cS HV
  clear hz
  go_enter Tryz.func27, Tryz.ntmps27
  go_wp2_with (go_at_call 53; refine cS.mono ?_; rintro e w1 ⟨rfl, hb⟩; have HB : Hid (Below w.heap.size w w1) := ((Below.refl _ w).alloc (Nat.le_refl _) _).trans (hb.mono (by simp)); clear hb)
  all_goals
    go_ret
    refine ⟨?_, by first | exact HB.out | exact (Below.refl _ w).alloc (Nat.le_refl _) _⟩
    have hv := HV.out
    first
      | exact ret_false (fun h => by obtain ⟨h1, h2, h3, h4⟩ := h; rcases hv with ⟨hv, hn⟩ | ⟨hv, hn⟩; (exact absurd h3 hn); omega)
      | exact ret_true (by rcases hv with ⟨hv, hn⟩ | ⟨hv, hn⟩; (exfalso; omega); exact ⟨by omega, by omega, hn, by omega⟩)
      | exact ret_dec ⟨fun h => by rcases hv with ⟨hv, hn⟩ | ⟨hv, hn⟩; (exfalso; omega); exact ⟨by omega, by omega, hn, by omega⟩, fun h => by obtain ⟨h1, h2, h3, h4⟩ := h; rcases hv with ⟨hv, hn⟩ | ⟨hv, hn⟩; (exact absurd h3 hn); omega⟩
def btc (N : Int) (ys : List Ob) : Int := if BtOk N ys then 0 else 1
theorem underBT : Tryz.prog.underlying 34 = some (.struct (Tryz.prog.fieldsOf 34)) := by kernel_rfl
theorem array2' {cs : Array Value} (h : cs.size = 2) : ∃ a b, cs = #[a, b] := by
  obtain ⟨l⟩ := cs
  match l, h with
  | [a, b], _ => exact ⟨a, b, rfl⟩
end Go.Proofs.YtfiaghfaijlfjaaGreat

