/- An atomic pointer to an echo of a row; where the echoes of a row lie. No conditions. -/
import Derived.Test.YtcddicaebecneaaRint
import Derived.Test.YtcddicaebecneaaBec
import Derived.Test.YtcddicaebecneaaBew
import Derived.Test.YtcddicaebecneaaRfn
import Derived.Laws.LoneSync
namespace Go.Proofs.Ytcddicaebecneaa
set_option maxRecDepth 100000
open Go.RowKit Go.WideShapes Go.ChangeShapes

section
variable {P : Program} {f : FuncId} {fn : Func}
theorem run_call_loadP (hf : P.funcs[f]? = some fn) (hname : (fn.name == "runtime.NumGoroutine") = false) (hb : fn.body.isNone = true) (hn : Extern.findNext fn = none)
    (he : Extern.find fn = some (Extern.Atomic.loadT .ptr)) {a : Addr} {x : Option Addr} {w : World} (hc : w.cell? a = some (.pointer x)) :
    (callFunc f #[.pointer (some a)]).run P w = .ok (.value (.pointer x)) w := by
  rw [run_callFunc_extern hf hname hb hn he]
  change (Sem.run P (do Extern.Atomic.read .ptr (← asAddr (.pointer (some a)))) w).andThen _ = _
  simp [Extern.Atomic.read, asAddr, hc, Result.andThen]
theorem run_call_storeP (hf : P.funcs[f]? = some fn) (hname : (fn.name == "runtime.NumGoroutine") = false) (hb : fn.body.isNone = true) (hn : Extern.findNext fn = none)
    (he : Extern.find fn = some Extern.Atomic.storeT) {a : Addr} {x : Option Addr} {u : Value} {w : World} (hc : w.cell? a = some u) (hz : w.frozen? a = false) :
    (callFunc f #[.pointer (some a), .pointer x]).run P w = .ok (.value (.tuple #[])) (w.setCell a (.pointer x)) := by
  rw [run_callFunc_extern hf hname hb hn he]
  change (Sem.run P (do
    store (← asAddr (.pointer (some a))) (.pointer x) .atomic
    pure Extern.Atomic.none_) w).andThen _ = _
  simp [asAddr, hc, hz, run_store P w a (.pointer x) .atomic rfl, Result.andThen, Extern.Atomic.none_]
theorem run_call_swapP (hf : P.funcs[f]? = some fn) (hname : (fn.name == "runtime.NumGoroutine") = false) (hb : fn.body.isNone = true) (hn : Extern.findNext fn = none)
    (he : Extern.find fn = some (Extern.Atomic.swapT .ptr)) {a : Addr} {x y : Option Addr} {w : World} (hc : w.cell? a = some (.pointer y)) (hz : w.frozen? a = false) :
    (callFunc f #[.pointer (some a), .pointer x]).run P w = .ok (.value (.pointer y)) (w.setCell a (.pointer x)) := by
  rw [run_callFunc_extern hf hname hb hn he]
  change (Sem.run P (do
    let a' ← asAddr (.pointer (some a))
    let old ← Extern.Atomic.read .ptr a'
    store a' (.pointer x) .atomic
    pure old) w).andThen _ = _
  simp [Extern.Atomic.read, asAddr, hc, hz, run_store P w a (.pointer x) .atomic rfl, Result.andThen]
end

/-- An echo lies there. -/
def Pts (w : World) (a : Addr) : Prop := (∃ v, w.cell? a = some v) ∧ ∃ e n, w.shape? a.block = some (e, n) ∧ liesAt Try.prog Try.prog.depth e (n / Try.prog.cellsOf e) a.off 51 1 = true
theorem Pts.low {w w' : World} {a : Addr} (h : Pts w a) (hb : w'.heap[a.block]? = w.heap[a.block]?) : Pts w' a := by
  obtain ⟨⟨v, h1⟩, e, n, h2, h3⟩ := h
  refine ⟨⟨v, by rw [World.cell?_of_block hb]; exact h1⟩, e, n, ?_, h3⟩
  unfold World.shape? at h2 ⊢
  rw [hb]; exact h2
theorem Pts.below {w w' : World} {a : Addr} {B : Nat} (h : Pts w a) (hb : Below B w w') (hB : a.block < B) : Pts w' a := h.low (hb.block a.block hB)
theorem Pts.set {w : World} {a : Addr} (h : Pts w a) {b j : Nat} (hb : a.block ≠ b) (v : Value) : Pts (w.setCell ⟨b, j, none⟩ v) a := h.low (Below.heap_setCell w ⟨b, j, none⟩ v a.block hb)
theorem underEP : Try.prog.underlying 96 = some (.pointer 51) := by kernel_rfl
theorem underUP : Try.prog.underlying 63 = some .unsafePointer := by kernel_rfl
theorem infoE2 : ∃ i, Try.prog.info? 51 = some i ∧ i.size = 2 := by
  have h : (Try.prog.info? 51).map (fun i => i.size) = some 2 := by kernel_rfl
  obtain ⟨i, h1, h2⟩ := Option.map_eq_some_iff.1 h
  exact ⟨i, h1, h2⟩
theorem conv_to {a : Addr} {w : World} (h : Pts w a) : (convert 96 63 (.pointer (some a))).run Try.prog w = .ok (.pointer (some a)) w := by
  obtain ⟨⟨v, h1⟩, _⟩ := h
  exact run_convert_to_unsafe underEP underUP (by kernel_rfl) h1
theorem conv_of {a : Addr} {w : World} (h : Pts w a) : (convert 63 96 (.pointer (some a))).run Try.prog w = .ok (.pointer (some a)) w := by
  obtain ⟨⟨v, h1⟩, e, n, h2, h3⟩ := h
  obtain ⟨i, hi, hz⟩ := infoE2
  simp [convert, Conv.unsafePointer, Conv.seenAt, viewAt, sizeOf, typeInfo, run_underlying underEP, run_underlying underUP, hi, hz, h2, h3, variablesAt, Result.andThen]
theorem load39 (b : Nat) (a : Addr) (w : World) (hc : w.cell? ⟨b, 0, none⟩ = some (.pointer (some a))) (hx : Pts w a) :
    Calls Try.prog 48 #[.pointer (some ⟨b, 0, none⟩)] w fun e w' => e = .returned (.pointer (some a)) ∧ w = w' := by
  have hl := run_call_loadP (P := Try.prog) (f := 49) Try.func49 (by kernel_rfl) (by kernel_rfl) (by kernel_rfl) (by kernel_rfl) hc
  have hv := conv_of hx
  go_enter Try.func48, Try.ntmps48
  go_wp2
  go_ret
  exact ⟨rfl, rfl⟩
theorem store37 (b : Nat) (x : Option Addr) (a : Addr) (w : World) (hc : w.cell? ⟨b, 0, none⟩ = some (.pointer x)) (hf : w.frozen? ⟨b, 0, none⟩ = false) (hx : Pts w a) :
    Calls Try.prog 46 #[.pointer (some ⟨b, 0, none⟩), .pointer (some a)] w fun e w' => e = .returned (.tuple #[]) ∧ w' = w.setCell ⟨b, 0, none⟩ (.pointer (some a)) := by
  have hl := run_call_storeP (P := Try.prog) (f := 41) (x := some a) Try.func41 (by kernel_rfl) (by kernel_rfl) (by kernel_rfl) (by kernel_rfl) hc hf
  have hv := conv_to hx
  go_enter Try.func46, Try.ntmps46
  go_wp2
  go_end0
  exact ⟨rfl, rfl⟩
theorem swap38 (b : Nat) (y : Addr) (a : Addr) (w : World) (hc : w.cell? ⟨b, 0, none⟩ = some (.pointer (some y))) (hf : w.frozen? ⟨b, 0, none⟩ = false) (hx : Pts w a) (hy : Pts w y) (hb : y.block ≠ b) :
    Calls Try.prog 47 #[.pointer (some ⟨b, 0, none⟩), .pointer (some a)] w fun e w' => e = .returned (.pointer (some y)) ∧ w' = w.setCell ⟨b, 0, none⟩ (.pointer (some a)) := by
  have hl := run_call_swapP (P := Try.prog) (f := 50) (x := some a) Try.func50 (by kernel_rfl) (by kernel_rfl) (by kernel_rfl) (by kernel_rfl) hc hf
  have hv := conv_to hx
  have hu := conv_of (hy.set (b := b) (j := 0) hb (.pointer (some a)))
  go_enter Try.func47, Try.ntmps47
  go_wp2
  go_ret
  exact ⟨rfl, rfl⟩
/-- Each echo of the slice lies where it may be pointed to. -/
def Sits (w : World) (v : Value) (n : Nat) : Prop := ∀ b off len cap, v = .slice (some ⟨b, off, none⟩) len cap → ∀ i, i < n → Pts w ⟨b, off + i * 2, none⟩
/-- A slice of echoes that reads as ys, each where it may be pointed to. -/
def El (w : World) (v : Value) (ys : List (Int × Int)) : Prop := Es w v ys ∧ Sits w v ys.length
theorem El.below {w w' : World} {v : Value} {ys : List (Int × Int)} (h : El w v ys) (hb : Below w.heap.size w w') : El w' v ys :=
  ⟨h.1.below hb, fun b off len cap e i hi => by
    have h2 := h.2 b off len cap e i hi
    obtain ⟨⟨u, hu⟩, _⟩ := h2
    exact Pts.below (h.2 b off len cap e i hi) hb (World.block_lt_of_cell? w _ hu)⟩
theorem El.alloc {w : World} {v : Value} {ys : List (Int × Int)} (h : El w v ys) (O : Obj) : El (w.alloc O) v ys := h.below ((Below.refl _ w).alloc (Nat.le_refl _) O)
theorem rowAt_own {d n i : Nat} (h : i < n) : rowAt Try.prog (sameLayout Try.prog Try.prog.depth · 51) (d + 1) 51 n (i * 2) 1 = true := by
  unfold rowAt
  simp only [cellsEC]
  rw [if_neg (by decide), Bool.or_eq_true_iff]
  left
  simp only [Bool.and_eq_true, beq_iff_eq, decide_eq_true_eq]
  refine ⟨⟨by omega, by omega⟩, ?_⟩
  kernel_rfl
theorem lies_own {n i : Nat} (h : i < n) : liesAt Try.prog Try.prog.depth 51 n (i * 2) 51 1 = true := by
  have hd : Try.prog.depth = Try.prog.depth - 1 + 1 := by kernel_rfl
  rw [hd]
  unfold liesAt
  rw [underEC]
  simp only [Bool.or_false]
  rw [hd]
  exact rowAt_own h
/-- A new echo. -/
theorem pts_new (w : World) (y1 y2 : Int) (g : Nat) (hg : g = w.heap.size) : Pts (w.alloc (.cells #[.int .i64 y1, .int .i64 y2] 51)) ⟨g, 0, none⟩ := by
  subst hg
  refine ⟨⟨.int .i64 y1, by simp⟩, 51, 2, ?_, ?_⟩
  · unfold World.shape?
    rw [World.alloc_heap_new w (.cells #[.int .i64 y1, .int .i64 y2] 51)]
    rfl
  · rw [cellsEC]
    exact lies_own (n := 1) (i := 0) (by decide)
end Go.Proofs.Ytcddicaebecneaa

