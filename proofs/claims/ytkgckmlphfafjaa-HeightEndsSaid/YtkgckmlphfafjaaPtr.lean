/- An atomic pointer to a height of a row. No conditions. -/
import Derived.Test.YtkgckmlphfafjaaLi2
import Derived.Test.YtkgckmlphfafjaaAtm
namespace Go.Proofs.Ytkgckmlphfafjaa
open Go.RowKit

/-- A height lies there. -/
def Pts (w : World) (a : Addr) : Prop := (∃ v, w.cell? a = some v) ∧ ∃ e n, w.shape? a.block = some (e, n) ∧ liesAt Try.prog Try.prog.depth e (n / Try.prog.cellsOf e) a.off 23 1 = true
theorem Pts.below {w w' : World} {a : Addr} {B : Nat} (h : Pts w a) (hb : Below B w w') (hB : a.block < B) : Pts w' a := by
  obtain ⟨⟨v, h1⟩, e, n, h2, h3⟩ := h
  refine ⟨⟨v, by rw [hb.cell hB]; exact h1⟩, e, n, ?_, h3⟩
  unfold World.shape? at h2 ⊢
  rw [hb.block a.block hB]; exact h2

theorem under64 : Try.prog.underlying 64 = some (.pointer 23) := by kernel_rfl
theorem under68 : Try.prog.underlying 68 = some .unsafePointer := by kernel_rfl
theorem info23 : ∃ i, Try.prog.info? 23 = some i ∧ i.size = 6 := by
  have h : (Try.prog.info? 23).map (fun i => i.size) = some 6 := by kernel_rfl
  obtain ⟨i, h1, h2⟩ := Option.map_eq_some_iff.1 h
  exact ⟨i, h1, h2⟩
theorem conv_to {a : Addr} {w : World} (h : Pts w a) : (convert 64 68 (.pointer (some a))).run Try.prog w = .ok (.pointer (some a)) w := by
  obtain ⟨⟨v, h1⟩, _⟩ := h
  exact run_convert_to_unsafe under64 under68 (by kernel_rfl) h1
theorem conv_of {a : Addr} {w : World} (h : Pts w a) : (convert 68 64 (.pointer (some a))).run Try.prog w = .ok (.pointer (some a)) w := by
  obtain ⟨⟨v, h1⟩, e, n, h2, h3⟩ := h
  obtain ⟨i, hi, hz⟩ := info23
  simp [convert, Conv.unsafePointer, Conv.seenAt, viewAt, sizeOf, typeInfo, run_underlying under64, run_underlying under68, hi, hz, h2, h3, variablesAt, Result.andThen]
theorem conv_nil (w : World) : (convert 68 64 (.pointer none)).run Try.prog w = .ok (.pointer none) w := by
  simp [convert, Conv.unsafePointer, run_underlying under64, run_underlying under68, Result.andThen]

theorem load45 (b : Nat) (x : Option Addr) (w : World) (hc : w.cell? ⟨b, 0, none⟩ = some (.pointer x)) (hx : ∀ a, x = some a → Pts w a) :
    Calls Try.prog 45 #[.pointer (some ⟨b, 0, none⟩)] w fun e w' => e = .returned (.pointer x) ∧ w = w' := by
  have hl := run_call_loadP (P := Try.prog) (f := 52) Try.func52 (by kernel_rfl) (by kernel_rfl) (by kernel_rfl) (by kernel_rfl) hc
  cases x with
  | none =>
    have hv := conv_nil w
    go_enter Try.func45, Try.ntmps45
    go_wp2
    go_ret
    exact ⟨rfl, rfl⟩
  | some a =>
    have hv := conv_of (hx a rfl)
    go_enter Try.func45, Try.ntmps45
    go_wp2
    go_ret
    exact ⟨rfl, rfl⟩

theorem store46 (b : Nat) (x : Option Addr) (a : Addr) (w : World) (hc : w.cell? ⟨b, 0, none⟩ = some (.pointer x)) (hf : w.frozen? ⟨b, 0, none⟩ = false) (hx : Pts w a) :
    Calls Try.prog 46 #[.pointer (some ⟨b, 0, none⟩), .pointer (some a)] w fun e w' => e = .returned (.tuple #[]) ∧ w' = w.setCell ⟨b, 0, none⟩ (.pointer (some a)) := by
  have hl := run_call_storeP (P := Try.prog) (f := 53) (x := some a) Try.func53 (by kernel_rfl) (by kernel_rfl) (by kernel_rfl) (by kernel_rfl) hc hf
  have hv := conv_to hx
  go_enter Try.func46, Try.ntmps46
  go_wp2
  go_end0
  exact ⟨rfl, rfl⟩
#print axioms store46
end Go.Proofs.Ytkgckmlphfafjaa
