/- Where a height lies in a row of heights: in whatever row, of whatever type, one of them lies where they all do. No conditions. -/
import Derived.Test.YtaflgabjpcfgpaaMad
import Derived.Laws.LoneSync
namespace Go.Proofs.Ytaflgabjpcfgpaa
set_option maxRecDepth 100000
open Go.RowKit

theorem div_part {s i r m : Nat} (h : r + m < s) : (s * i + (r + m)) / s = i ∧ (s * i + (r + m)) % s = r + m := by
  constructor
  · rw [Nat.mul_add_div (by omega), Nat.div_eq_of_lt h]; omega
  · rw [Nat.mul_add_mod, Nat.mod_eq_of_lt h]

theorem rowAt_part {P : Program} {fits : TypeId → Bool} {z : Nat} (hz : 0 < z) (hA : ∀ e, fits e = true → P.cellsOf e = z)
    (hC : ∀ (e : TypeId) (fs : Array Field) (f : Field), P.underlying e = some (.struct fs) → f ∈ fs → f.offset + P.cellsOf f.type ≤ P.cellsOf e)
    (hD : ∀ (e : TypeId) (m : Nat) (e' : TypeId), P.underlying e = some (.array m e') → m * P.cellsOf e' ≤ P.cellsOf e) :
    ∀ (d : Nat) (e count off n : Nat), rowAt P fits d e count off n = true → off + z * n ≤ count * P.cellsOf e ∧ ∀ k, k < n → rowAt P fits d e count (off + k * z) 1 = true := by
  intro d
  induction d with
  | zero => intro e count off n h; cases h
  | succ d ih =>
    intro e count off n h
    unfold rowAt at h
    simp only at h
    split at h
    · cases h
    · rename_i hs
      have hoff : off = P.cellsOf e * (off / P.cellsOf e) + off % P.cellsOf e := (Nat.div_add_mod _ _).symm
      have hr : off % P.cellsOf e < P.cellsOf e := Nat.mod_lt _ (by omega)
      rcases Bool.or_eq_true_iff.1 h with h | h
      · simp only [Bool.and_eq_true, beq_iff_eq, decide_eq_true_eq] at h
        have h6 := hA e h.2
        rw [h6] at h hoff
        have hm : z * (off / z + n) ≤ z * count := Nat.mul_le_mul_left z h.1.2
        rw [Nat.mul_add] at hm
        refine ⟨by rw [h6, Nat.mul_comm count z]; omega, fun k hk => ?_⟩
        unfold rowAt
        simp only
        rw [h6, if_neg (by omega)]
        have e1 : off + k * z = z * (off / z + k) := by rw [Nat.mul_add, Nat.mul_comm k z]; omega
        rw [e1, Nat.mul_div_cancel_left _ hz, Nat.mul_mod_right]
        rw [Bool.or_eq_true_iff]
        left
        simp only [Bool.and_eq_true, beq_iff_eq, decide_eq_true_eq]
        exact ⟨⟨trivial, by omega⟩, h.2⟩
      · obtain ⟨hi, h⟩ := Bool.and_eq_true_iff.1 h
        have hi := of_decide_eq_true hi
        have hmul : P.cellsOf e * (off / P.cellsOf e) + P.cellsOf e ≤ count * P.cellsOf e := by
          rw [Nat.mul_comm count, ← Nat.mul_succ]
          exact Nat.mul_le_mul_left _ hi
        -- what both ways share: a part of the element bears the row
        have fin : ∀ (X : Nat → Nat → Bool), off % P.cellsOf e + z * n ≤ P.cellsOf e →
            (∀ k, k < n → ∀ r', r' = off % P.cellsOf e + k * z → (match P.underlying e with
              | some (.struct fs) => !P.stoodInHeld e && fs.any fun f => decide (f.offset ≤ r') && decide (r' < f.offset + P.cellsOf f.type) && rowAt P fits d f.type 1 (r' - f.offset) 1
              | some (.array m e') => rowAt P fits d e' m r' 1
              | _ => false) = true) →
            off + z * n ≤ count * P.cellsOf e ∧ ∀ k, k < n → rowAt P fits (d + 1) e count (off + k * z) 1 = true := by
          intro _ hin hk
          refine ⟨by omega, fun k hkn => ?_⟩
          have hkz : k * z + z ≤ z * n := by rw [Nat.mul_comm k z, ← Nat.mul_succ]; exact Nat.mul_le_mul_left z hkn
          have e1 : off + k * z = P.cellsOf e * (off / P.cellsOf e) + (off % P.cellsOf e + k * z) := by omega
          obtain ⟨e2, e3⟩ := div_part (s := P.cellsOf e) (i := off / P.cellsOf e) (r := off % P.cellsOf e) (m := k * z) (by omega)
          unfold rowAt
          simp only
          rw [if_neg hs, e1, e2, e3, Bool.or_eq_true_iff]
          right
          rw [Bool.and_eq_true_iff]
          exact ⟨decide_eq_true hi, hk k hkn _ rfl⟩
        split at h
        · rename_i fs hu
          obtain ⟨hst, h⟩ := Bool.and_eq_true_iff.1 h
          obtain ⟨j, hj, h⟩ := Array.any_eq_true.1 h
          obtain ⟨h1, h2⟩ := Bool.and_eq_true_iff.1 h
          obtain ⟨h3, h4⟩ := Bool.and_eq_true_iff.1 h1
          have h3 := of_decide_eq_true h3
          have h4 := of_decide_eq_true h4
          obtain ⟨h5, h6⟩ := ih _ _ _ _ h2
          have h7 := hC e fs fs[j] hu (Array.getElem_mem hj)
          refine fin (fun _ _ => true) (by omega) fun k hk r' hr' => ?_
          have hkz : k * z + z ≤ z * n := by rw [Nat.mul_comm k z, ← Nat.mul_succ]; exact Nat.mul_le_mul_left z hk
          rw [hu]
          simp only
          rw [hst, Bool.true_and]
          refine Array.any_eq_true.2 ⟨j, hj, ?_⟩
          rw [decide_eq_true (show fs[j].offset ≤ r' by omega), decide_eq_true (show r' < fs[j].offset + P.cellsOf fs[j].type by omega)]
          have h8 := h6 k hk
          rw [show off % P.cellsOf e - fs[j].offset + k * z = r' - fs[j].offset by omega] at h8
          rw [h8]; rfl
        · rename_i m e' hu
          obtain ⟨h5, h6⟩ := ih _ _ _ _ h
          have h7 := hD e m e' hu
          refine fin (fun _ _ => true) (by omega) fun k hk r' hr' => ?_
          rw [hu]
          simp only
          rw [hr']
          exact h6 k hk
        · cases h
#print axioms rowAt_part
end Go.Proofs.Ytaflgabjpcfgpaa
