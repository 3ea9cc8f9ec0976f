/- Texts Plain, Akt, Akr, Bec, Bes, Ber, Bew, Epr, Bmt, Psd, Zin of this proof, in one. No conditions but on lengths. -/
import Derived.Test.YthnajpckhoomgaaGreatRows
import Derived.Test.YthnajpckhoomgaaGreatU06
import Derived.ArgAppend
import Derived.Below
import Derived.BigQuiet
import Derived.Calls
import Derived.ChangeArms
import Derived.ChangeMade
import Derived.ChangeOld
import Derived.Deep.Cut
import Derived.Deep.QuietTactic
import Derived.Deep.RegionLaw
import Derived.Deep.Slices
import Derived.Laws.AppendOwnNone
import Derived.Laws.BytesArg
import Derived.Laws.LoneSync
import Derived.Laws.OwnMore
import Derived.Laws.StructEq
import Derived.Lib.Hide
import Derived.Lib.QuietBelow
import Derived.LoopTactic
import Derived.Maps.AppendAt
import Derived.OpenShut
import Derived.Orders
import Derived.Outline
import Derived.ProofKit
import Derived.RangeFuncBox
import Derived.RangeFuncCalls
import Derived.RangeFuncLeaves
import Derived.RangeFuncNested
import Derived.ShutString
import Derived.StillTail
import Derived.WalkKit
import Derived.WalkSpells
import Derived.WideShapes
namespace Go.Proofs.YthnajpckhoomgaaGreat
set_option maxRecDepth 100000
open Go.RowKit

theorem lo_len (v : Int) (n : Nat) : (lo v n).length = n := by simp [lo]
theorem lo_bytes (v : Int) (n : Nat) : ∀ x ∈ lo v n, 0 ≤ x ∧ x < 256 := by
  intro x hx
  obtain ⟨i, _, rfl⟩ := List.mem_map.1 hx
  omega
end Go.Proofs.YthnajpckhoomgaaGreat
namespace Go.Proofs.YthnajpckhoomgaaGreat
set_option maxRecDepth 100000
open Go.RowKit Go.WideShapes Go.ChangeShapes

/-- An ack: whose, of which epoch, what is next, which came. -/
def ak (y : Int × Int × Int × Int) : List Value := [.int .i64 y.1, .int .i64 y.2.1, .int .i64 y.2.2.1, .int .i64 y.2.2.2]
theorem infoAK : (Tryz.prog.info? 112).map (fun i => (i.zero, i.size, i.bytes)) = some (some (.agg #[.int .i64 0, .int .i64 0, .int .i64 0, .int .i64 0]), 4, 32) := by kernel_rfl
theorem underAS : Tryz.prog.underlying 73 = some (.slice 112) := by kernel_rfl
theorem cellsAK : Tryz.prog.cellsOf 112 = 4 := by kernel_rfl
theorem ak_ones (y : Int × Int × Int × Int) : ∀ u ∈ ak y, u.oneCell' = true := by
  intro u hu
  simp only [ak, List.mem_cons, List.not_mem_nil, or_false] at hu
  rcases hu with rfl | rfl | rfl | rfl <;> rfl
/-- Rows of acks. -/
noncomputable def RA : RowT where
  α := Int × Int × Int × Int
  d := (0, 0, 0, 0)
  cl := ak
  K := 4
  T := 112
  SL := 73
  zero := .agg #[.int .i64 0, .int .i64 0, .int .i64 0, .int .i64 0]
  bytes := 32
  hcl := fun _ => rfl
  hK := by decide
  hone := ak_ones
  hSL := underAS
  hinfo := infoAK
  hz := rfl
  hb := by decide
  hc := cellsAK
/-- A slice of acks that reads as ys. -/
def As (w : World) (v : Value) (ys : List (Int × Int × Int × Int)) : Prop := Gs RA w v ys
def aflat (ys : List (Int × Int × Int × Int)) : List Value := ys.flatMap ak
theorem As.below {w w' : World} {v : Value} {ys : List (Int × Int × Int × Int)} (h : As w v ys) (hb : Below w.heap.size w w') : As w' v ys := Gs.below (R := RA) h hb
theorem As.alloc {w : World} {v : Value} {ys : List (Int × Int × Int × Int)} (h : As w v ys) (O : Obj) : As (w.alloc O) v ys := Gs.alloc (R := RA) h O
theorem As.form {w : World} {v : Value} {ys : List (Int × Int × Int × Int)} (h : As w v ys) : ∃ a c, v = .slice a ys.length c := Gs.form (R := RA) h
/-- The four cells of an ack. -/
def Cells4a (w : World) (b o : Nat) (y : Int × Int × Int × Int) : Prop := w.cell? ⟨b, o, none⟩ = some (.int .i64 y.1) ∧ w.cell? ⟨b, o + 1, none⟩ = some (.int .i64 y.2.1) ∧ w.cell? ⟨b, o + 2, none⟩ = some (.int .i64 y.2.2.1) ∧ w.cell? ⟨b, o + 3, none⟩ = some (.int .i64 y.2.2.2)
theorem ak_of {w : World} {b o : Nat} {y : Int × Int × Int × Int} (h : GC RA w b o y) : Cells4a w b o y := ⟨h 0 (by decide), h 1 (by decide), h 2 (by decide), h 3 (by decide)⟩
theorem Cells4a.below {w w' : World} {b o : Nat} {y : Int × Int × Int × Int} (h : Cells4a w b o y) (hb : Below w.heap.size w w') : Cells4a w' b o y := by
  obtain ⟨h0, h1, h2, h3⟩ := h
  exact ⟨by rw [hb.cell (World.block_lt_of_cell? w _ h0)]; exact h0, by rw [hb.cell (World.block_lt_of_cell? w _ h1)]; exact h1, by rw [hb.cell (World.block_lt_of_cell? w _ h2)]; exact h2, by rw [hb.cell (World.block_lt_of_cell? w _ h3)]; exact h3⟩
theorem As.at {w : World} {a : Option Addr} {c : Nat} {ys : List (Int × Int × Int × Int)} (h : As w (.slice a ys.length c) ys) {i : Nat} (hi : i < ys.length) : ∃ b off, a = some ⟨b, off, none⟩ ∧ b < w.heap.size ∧ Cells4a w b (off + i * 4) (ys.getD i (0, 0, 0, 0)) := by
  obtain ⟨b, off, h1, h2, h3⟩ := Gs.at (R := RA) h hi
  exact ⟨b, off, h1, h2, ak_of h3⟩
theorem As.all {w : World} {b off c : Nat} {ys : List (Int × Int × Int × Int)} (h : As w (.slice (some ⟨b, off, none⟩) ys.length c) ys) {i : Nat} (hi : i < ys.length) : b < w.heap.size ∧ Cells4a w b (off + i * 4) (ys.getD i (0, 0, 0, 0)) := by
  obtain ⟨h2, h3⟩ := Gs.all (R := RA) h hi
  exact ⟨h2, ak_of h3⟩
theorem As_of_own {w : World} {base n : Nat} {v : Value} {ys : List (Int × Int × Int × Int)} (h : w.ownsRow base 112 4 v n (aflat ys)) : As w v ys ∧ n = ys.length := Gs_of_own (R := RA) h
def EpOk (n : Int) : Prop := 0 ≤ n ∧ n ≤ 4294967295
instance (n : Int) : Decidable (EpOk n) := by unfold EpOk; infer_instance
def AkOne (y : Int × Int × Int × Int) : Prop := (0 ≤ y.1 ∧ y.1 < 64) ∧ EpOk y.2.1 ∧ (0 ≤ y.2.2.1 ∧ y.2.2.1 ≤ 65535) ∧ (0 ≤ y.2.2.2 ∧ y.2.2.2 ≤ 65535)
instance (y : Int × Int × Int × Int) : Decidable (AkOne y) := by unfold AkOne; infer_instance
end Go.Proofs.YthnajpckhoomgaaGreat
namespace Go.Proofs.YthnajpckhoomgaaGreat
set_option maxRecDepth 100000
open Go.RowKit

/-- An ack that may stand there. -/
def AkAt (ys : List (Int × Int × Int × Int)) (i : Nat) : Prop := AkOne (ys.getD i (0, 0, 0, 0)) ∧ (0 < i → (ys.getD (i - 1) (0, 0, 0, 0)).1 < (ys.getD i (0, 0, 0, 0)).1)
instance (ys : List (Int × Int × Int × Int)) (i : Nat) : Decidable (AkAt ys i) := by unfold AkAt; infer_instance
/-- A row of acks that is right. -/
def AksOk (ys : List (Int × Int × Int × Int)) : Prop := (∀ i, i < ys.length → AkAt ys i) ∧ 1 ≤ ys.length ∧ ys.length ≤ 64
instance (ys : List (Int × Int × Int × Int)) : Decidable (AksOk ys) := by unfold AksOk; infer_instance
end Go.Proofs.YthnajpckhoomgaaGreat
namespace Go.Proofs.YthnajpckhoomgaaGreat
set_option maxRecDepth 100000
open Go.RowKit Go.WideShapes Go.ChangeShapes

/-- An echo: whose, of which epoch. -/
def ec (y : Int × Int) : List Value := [.int .i64 y.1, .int .i64 y.2]
theorem infoEC : (Tryz.prog.info? 23).map (fun i => (i.zero, i.size, i.bytes)) = some (some (.agg #[.int .i64 0, .int .i64 0]), 2, 16) := by kernel_rfl
theorem underES : Tryz.prog.underlying 70 = some (.slice 23) := by kernel_rfl
theorem underEC : Tryz.prog.underlying 23 = some (.struct (Tryz.prog.fieldsOf 23)) := by kernel_rfl
theorem cellsEC : Tryz.prog.cellsOf 23 = 2 := by kernel_rfl
theorem ec_ones (y : Int × Int) : ∀ u ∈ ec y, u.oneCell' = true := by
  intro u hu
  simp only [ec, List.mem_cons, List.not_mem_nil, or_false] at hu
  rcases hu with rfl | rfl <;> rfl
/-- Rows of echoes. -/
noncomputable def RE : RowT where
  α := Int × Int
  d := (0, 0)
  cl := ec
  K := 2
  T := 23
  SL := 70
  zero := .agg #[.int .i64 0, .int .i64 0]
  bytes := 16
  hcl := fun _ => rfl
  hK := by decide
  hone := ec_ones
  hSL := underES
  hinfo := infoEC
  hz := rfl
  hb := by decide
  hc := cellsEC
/-- A slice of echoes that reads as ys. -/
def Es (w : World) (v : Value) (ys : List (Int × Int)) : Prop := Gs RE w v ys
def eflat (ys : List (Int × Int)) : List Value := ys.flatMap ec
theorem Es.below {w w' : World} {v : Value} {ys : List (Int × Int)} (h : Es w v ys) (hb : Below w.heap.size w w') : Es w' v ys := Gs.below (R := RE) h hb
theorem Es.alloc {w : World} {v : Value} {ys : List (Int × Int)} (h : Es w v ys) (O : Obj) : Es (w.alloc O) v ys := Gs.alloc (R := RE) h O
theorem Es.form {w : World} {v : Value} {ys : List (Int × Int)} (h : Es w v ys) : ∃ a c, v = .slice a ys.length c := Gs.form (R := RE) h
theorem es_of {w : World} {b o : Nat} {y : Int × Int} (h : GC RE w b o y) : w.cell? ⟨b, o, none⟩ = some (.int .i64 y.1) ∧ w.cell? ⟨b, o + 1, none⟩ = some (.int .i64 y.2) := ⟨h 0 (by decide), h 1 (by decide)⟩
theorem Es.at {w : World} {a : Option Addr} {c : Nat} {ys : List (Int × Int)} (h : Es w (.slice a ys.length c) ys) {i : Nat} (hi : i < ys.length) : ∃ b off, a = some ⟨b, off, none⟩ ∧ b < w.heap.size ∧ w.cell? ⟨b, off + i * 2, none⟩ = some (.int .i64 (ys.getD i (0, 0)).1) ∧ w.cell? ⟨b, off + i * 2 + 1, none⟩ = some (.int .i64 (ys.getD i (0, 0)).2) := by
  obtain ⟨b, off, h1, h2, h3⟩ := Gs.at (R := RE) h hi
  exact ⟨b, off, h1, h2, es_of h3⟩
theorem Es.all {w : World} {b off c : Nat} {ys : List (Int × Int)} (h : Es w (.slice (some ⟨b, off, none⟩) ys.length c) ys) {i : Nat} (hi : i < ys.length) : b < w.heap.size ∧ w.cell? ⟨b, off + i * 2, none⟩ = some (.int .i64 (ys.getD i (0, 0)).1) ∧ w.cell? ⟨b, off + i * 2 + 1, none⟩ = some (.int .i64 (ys.getD i (0, 0)).2) := by
  obtain ⟨h2, h3⟩ := Gs.all (R := RE) h hi
  exact ⟨h2, es_of h3⟩
theorem Es_of_own {w : World} {base n : Nat} {v : Value} {ys : List (Int × Int)} (h : w.ownsRow base 23 2 v n (eflat ys)) : Es w v ys ∧ n = ys.length := Gs_of_own (R := RE) h
instance (n : Int) : Decidable (EpOk n) := by unfold EpOk; infer_instance
end Go.Proofs.YthnajpckhoomgaaGreat
namespace Go.Proofs.YthnajpckhoomgaaGreat
set_option maxRecDepth 100000
open Go.RowKit

def OwnB2 (w : World) (b : Nat) (M : Int) (v : Value) : Prop := (w.cell? ⟨b, 0, none⟩ = some (.int .i64 M) ∧ w.cell? ⟨b, 1, none⟩ = some v) ∧ ∀ j, w.frozen? ⟨b, j, none⟩ = false
theorem OwnB2.lt {w : World} {b : Nat} {M : Int} {v : Value} (h : OwnB2 w b M v) : b < w.heap.size := World.block_lt_of_cell? w _ h.1.1
theorem OwnB2.below {w w' : World} {b : Nat} {M : Int} {v : Value} (h : OwnB2 w b M v) (hb : Below w.heap.size w w') : OwnB2 w' b M v :=
  ⟨⟨(hb.cell (p := ⟨b, 0, none⟩) h.lt).trans h.1.1, (hb.cell (p := ⟨b, 1, none⟩) h.lt).trans h.1.2⟩, fun j => (hb.frozen (p := ⟨b, j, none⟩) h.lt).trans (h.2 j)⟩
theorem OwnB2.low {w w' : World} {b S : Nat} {M : Int} {v : Value} (h : OwnB2 w b M v) (hb : b < S) (hB : Below S w w') : OwnB2 w' b M v :=
  ⟨⟨(hB.cell (p := ⟨b, 0, none⟩) hb).trans h.1.1, (hB.cell (p := ⟨b, 1, none⟩) hb).trans h.1.2⟩, fun j => (hB.frozen (p := ⟨b, j, none⟩) hb).trans (h.2 j)⟩
theorem OwnB2.apart {w : World} {b b' : Nat} {M : Int} {v u : Value} (h : OwnB2 w b M v) (hb : b ≠ b') (j : Nat) : OwnB2 (w.setCell ⟨b', j, none⟩ u) b M v := by
  have e : ∀ i, (w.setCell ⟨b', j, none⟩ u).cell? ⟨b, i, none⟩ = w.cell? ⟨b, i, none⟩ := fun i => World.cell?_of_block (Below.heap_setCell w ⟨b', j, none⟩ u b hb)
  have f : ∀ i, (w.setCell ⟨b', j, none⟩ u).frozen? ⟨b, i, none⟩ = w.frozen? ⟨b, i, none⟩ := fun i => World.frozen?_of_block (Below.heap_setCell w ⟨b', j, none⟩ u b hb)
  exact ⟨⟨(e 0).trans h.1.1, (e 1).trans h.1.2⟩, fun i => (f i).trans (h.2 i)⟩
/-- What is laid into a variable leaves rows in other blocks as they are. -/
theorem gown_apart {w : World} {b S size n : Nat} {e : TypeId} {v u : Value} {xs : List Value} (h : w.ownsRow S e size v n xs) (hb : b < S) (j : Nat) : (w.setCell ⟨b, j, none⟩ u).ownsRow S e size v n xs := by
  refine ⟨h.1, ?_⟩
  rcases h.2 with h2 | ⟨g, cap, cur, rfl, h3, hg, rest⟩
  · exact .inl h2
  · exact .inr ⟨g, cap, cur, rfl, h3, (Below.heap_setCell w ⟨b, j, none⟩ u g (by show g ≠ b; omega)).trans hg, rest⟩
end Go.Proofs.YthnajpckhoomgaaGreat
namespace Go.Proofs.YthnajpckhoomgaaGreat
set_option maxRecDepth 100000
open Go.RowKit

/-- An echo that may stand there. -/
def EcAt (ys : List (Int × Int)) (i : Nat) : Prop := (0 ≤ (ys.getD i (0, 0)).1 ∧ (ys.getD i (0, 0)).1 < 64) ∧ (0 < i → (ys.getD (i - 1) (0, 0)).1 < (ys.getD i (0, 0)).1) ∧ EpOk (ys.getD i (0, 0)).2
instance (ys : List (Int × Int)) (i : Nat) : Decidable (EcAt ys i) := by unfold EcAt; infer_instance
/-- A beacon that is right. -/
def BeOk (M : Int) (ys : List (Int × Int)) : Prop := (∀ i, i < ys.length → EcAt ys i) ∧ EpOk M
instance (M : Int) (ys : List (Int × Int)) : Decidable (BeOk M ys) := by unfold BeOk; infer_instance
end Go.Proofs.YthnajpckhoomgaaGreat
namespace Go.Proofs.YthnajpckhoomgaaGreat
set_option maxRecDepth 100000
open Go.RowKit

/-- Echoes in memory of one's own. -/
def OwE (w : World) (S : Nat) (v : Value) (xs : List (Int × Int)) : Prop := w.ownsRow S 23 2 v xs.length (eflat xs)
theorem OwE.form {w : World} {S : Nat} {v : Value} {xs : List (Int × Int)} (h : OwE w S v xs) : ∃ a c, v = .slice a xs.length c := gown_form h
theorem OwE.lt {w : World} {S : Nat} {v : Value} {xs : List (Int × Int)} (h : OwE w S v xs) (b : Nat) (hb : v.ownBlock = some b) : S ≤ b ∧ b < w.heap.size := World.ownsRow.lt h b hb
theorem OwE.set {w : World} {S b : Nat} {v u : Value} {xs : List (Int × Int)} (h : OwE w S v xs) (hb : b < S) (j : Nat) : OwE (w.setCell ⟨b, j, none⟩ u) S v xs := gown_apart h hb j
theorem OwE.mono {w : World} {S B : Nat} {v : Value} {xs : List (Int × Int)} (h : OwE w S v xs) (hB : B ≤ S) : OwE w B v xs := gown_mono h hB
theorem OwnB2.set {w : World} {b : Nat} {M : Int} {v : Value} (h : OwnB2 w b M v) (M' : Int) (v' : Value) : OwnB2 ((w.setCell ⟨b, 0, none⟩ (.int .i64 M')).setCell ⟨b, 1, none⟩ v') b M' v' := by
  obtain ⟨⟨h0, h1⟩, hf⟩ := h
  refine ⟨⟨?_, ?_⟩, fun j => ?_⟩ <;> simp [go_sem, hf, h0, h1]
end Go.Proofs.YthnajpckhoomgaaGreat
namespace Go.Proofs.YthnajpckhoomgaaGreat
set_option maxRecDepth 100000
open Go.RowKit Go.WideShapes Go.ChangeShapes

section
variable {P : Program} {f : FuncId} {fn : Func}
theorem run_call_loadP (hf : P.funcs[f]? = some fn) (hname : (fn.name == "runtime.NumGoroutine") = false) (hb : fn.body.isNone = true) (hn : Extern.findNext fn = none)
    (he : Extern.find fn = some (Extern.Atomic.loadT .ptr)) {a : Addr} {x : Option Addr} {w : World} (hc : w.cell? a = some (.pointer x)) :
    (callFunc f #[.pointer (some a)]).run P w = .ok (.value (.pointer x)) w := by
  rw [run_callFunc_extern hf hname hb hn he]
  change (Sem.run P (do Extern.Atomic.read .ptr (← asAddr (.pointer (some a)))) w).andThen _ = _
  simp [Extern.Atomic.read, asAddr, hc, Result.andThen]
theorem run_call_storeP (hf : P.funcs[f]? = some fn) (hname : (fn.name == "runtime.NumGoroutine") = false) (hb : fn.body.isNone = true) (hn : Extern.findNext fn = none)
    (he : Extern.find fn = some Extern.Atomic.storeT) {a : Addr} {x : Option Addr} {u : Value} {w : World} (hc : w.cell? a = some u) (hz : w.frozen? a = false) :
    (callFunc f #[.pointer (some a), .pointer x]).run P w = .ok (.value (.tuple #[])) (w.setCell a (.pointer x)) := by
  rw [run_callFunc_extern hf hname hb hn he]
  change (Sem.run P (do
    store (← asAddr (.pointer (some a))) (.pointer x) .atomic
    pure Extern.Atomic.none_) w).andThen _ = _
  simp [asAddr, hc, hz, run_store P w a (.pointer x) .atomic rfl, Result.andThen, Extern.Atomic.none_]
theorem run_call_swapP (hf : P.funcs[f]? = some fn) (hname : (fn.name == "runtime.NumGoroutine") = false) (hb : fn.body.isNone = true) (hn : Extern.findNext fn = none)
    (he : Extern.find fn = some (Extern.Atomic.swapT .ptr)) {a : Addr} {x y : Option Addr} {w : World} (hc : w.cell? a = some (.pointer y)) (hz : w.frozen? a = false) :
    (callFunc f #[.pointer (some a), .pointer x]).run P w = .ok (.value (.pointer y)) (w.setCell a (.pointer x)) := by
  rw [run_callFunc_extern hf hname hb hn he]
  change (Sem.run P (do
    let a' ← asAddr (.pointer (some a))
    let old ← Extern.Atomic.read .ptr a'
    store a' (.pointer x) .atomic
    pure old) w).andThen _ = _
  simp [Extern.Atomic.read, asAddr, hc, hz, run_store P w a (.pointer x) .atomic rfl, Result.andThen]
end

/-- An echo lies there. -/
def Pts (w : World) (a : Addr) : Prop := (∃ v, w.cell? a = some v) ∧ ∃ e n, w.shape? a.block = some (e, n) ∧ liesAt Tryz.prog Tryz.prog.depth e (n / Tryz.prog.cellsOf e) a.off 23 1 = true
theorem Pts.low {w w' : World} {a : Addr} (h : Pts w a) (hb : w'.heap[a.block]? = w.heap[a.block]?) : Pts w' a := by
  obtain ⟨⟨v, h1⟩, e, n, h2, h3⟩ := h
  refine ⟨⟨v, by rw [World.cell?_of_block hb]; exact h1⟩, e, n, ?_, h3⟩
  unfold World.shape? at h2 ⊢
  rw [hb]; exact h2
theorem Pts.below {w w' : World} {a : Addr} {B : Nat} (h : Pts w a) (hb : Below B w w') (hB : a.block < B) : Pts w' a := h.low (hb.block a.block hB)
theorem Pts.set {w : World} {a : Addr} (h : Pts w a) {b j : Nat} (hb : a.block ≠ b) (v : Value) : Pts (w.setCell ⟨b, j, none⟩ v) a := h.low (Below.heap_setCell w ⟨b, j, none⟩ v a.block hb)
theorem underEP : Tryz.prog.underlying 253 = some (.pointer 23) := by kernel_rfl
theorem underUP : Tryz.prog.underlying 255 = some .unsafePointer := by kernel_rfl
theorem infoE2 : ∃ i, Tryz.prog.info? 23 = some i ∧ i.size = 2 := by
  have h : (Tryz.prog.info? 23).map (fun i => i.size) = some 2 := by kernel_rfl
  obtain ⟨i, h1, h2⟩ := Option.map_eq_some_iff.1 h
  exact ⟨i, h1, h2⟩
theorem conv_to {a : Addr} {w : World} (h : Pts w a) : (convert 253 255 (.pointer (some a))).run Tryz.prog w = .ok (.pointer (some a)) w := by
  obtain ⟨⟨v, h1⟩, _⟩ := h
  exact run_convert_to_unsafe underEP underUP (by kernel_rfl) h1
theorem conv_of {a : Addr} {w : World} (h : Pts w a) : (convert 255 253 (.pointer (some a))).run Tryz.prog w = .ok (.pointer (some a)) w := by
  obtain ⟨⟨v, h1⟩, e, n, h2, h3⟩ := h
  obtain ⟨i, hi, hz⟩ := infoE2
  simp [convert, Conv.unsafePointer, Conv.seenAt, viewAt, sizeOf, typeInfo, run_underlying underEP, run_underlying underUP, hi, hz, h2, h3, variablesAt, Result.andThen]
theorem load39 (b : Nat) (a : Addr) (w : World) (hc : w.cell? ⟨b, 0, none⟩ = some (.pointer (some a))) (hx : Pts w a) :
    Calls Tryz.prog 171 #[.pointer (some ⟨b, 0, none⟩)] w fun e w' => e = .returned (.pointer (some a)) ∧ w = w' := by
  have hl := run_call_loadP (P := Tryz.prog) (f := 210) Tryz.func210 (by kernel_rfl) (by kernel_rfl) (by kernel_rfl) (by kernel_rfl) hc
  have hv := conv_of hx
  go_enter Tryz.func171, Tryz.ntmps171
  go_wp2
  go_ret
  exact ⟨rfl, rfl⟩
theorem store37 (b : Nat) (x : Option Addr) (a : Addr) (w : World) (hc : w.cell? ⟨b, 0, none⟩ = some (.pointer x)) (hf : w.frozen? ⟨b, 0, none⟩ = false) (hx : Pts w a) :
    Calls Tryz.prog 169 #[.pointer (some ⟨b, 0, none⟩), .pointer (some a)] w fun e w' => e = .returned (.tuple #[]) ∧ w' = w.setCell ⟨b, 0, none⟩ (.pointer (some a)) := by
  have hl := run_call_storeP (P := Tryz.prog) (f := 208) (x := some a) Tryz.func208 (by kernel_rfl) (by kernel_rfl) (by kernel_rfl) (by kernel_rfl) hc hf
  have hv := conv_to hx
  go_enter Tryz.func169, Tryz.ntmps169
  go_wp2
  go_end0
  exact ⟨rfl, rfl⟩
theorem swap38 (b : Nat) (y : Addr) (a : Addr) (w : World) (hc : w.cell? ⟨b, 0, none⟩ = some (.pointer (some y))) (hf : w.frozen? ⟨b, 0, none⟩ = false) (hx : Pts w a) (hy : Pts w y) (hb : y.block ≠ b) :
    Calls Tryz.prog 170 #[.pointer (some ⟨b, 0, none⟩), .pointer (some a)] w fun e w' => e = .returned (.pointer (some y)) ∧ w' = w.setCell ⟨b, 0, none⟩ (.pointer (some a)) := by
  have hl := run_call_swapP (P := Tryz.prog) (f := 209) (x := some a) Tryz.func209 (by kernel_rfl) (by kernel_rfl) (by kernel_rfl) (by kernel_rfl) hc hf
  have hv := conv_to hx
  have hu := conv_of (hy.set (b := b) (j := 0) hb (.pointer (some a)))
  go_enter Tryz.func170, Tryz.ntmps170
  go_wp2
  go_ret
  exact ⟨rfl, rfl⟩
/-- Each echo of the slice lies where it may be pointed to. -/
def Sits (w : World) (v : Value) (n : Nat) : Prop := ∀ b off len cap, v = .slice (some ⟨b, off, none⟩) len cap → ∀ i, i < n → Pts w ⟨b, off + i * 2, none⟩
/-- A slice of echoes that reads as ys, each where it may be pointed to. -/
def El (w : World) (v : Value) (ys : List (Int × Int)) : Prop := Es w v ys ∧ Sits w v ys.length
theorem El.below {w w' : World} {v : Value} {ys : List (Int × Int)} (h : El w v ys) (hb : Below w.heap.size w w') : El w' v ys :=
  ⟨h.1.below hb, fun b off len cap e i hi => by
    have h2 := h.2 b off len cap e i hi
    obtain ⟨⟨u, hu⟩, _⟩ := h2
    exact Pts.below (h.2 b off len cap e i hi) hb (World.block_lt_of_cell? w _ hu)⟩
theorem El.alloc {w : World} {v : Value} {ys : List (Int × Int)} (h : El w v ys) (O : Obj) : El (w.alloc O) v ys := h.below ((Below.refl _ w).alloc (Nat.le_refl _) O)
theorem rowAt_own {d n i : Nat} (h : i < n) : rowAt Tryz.prog (sameLayout Tryz.prog Tryz.prog.depth · 23) (d + 1) 23 n (i * 2) 1 = true := by
  unfold rowAt
  simp only [cellsEC]
  rw [if_neg (by decide), Bool.or_eq_true_iff]
  left
  simp only [Bool.and_eq_true, beq_iff_eq, decide_eq_true_eq]
  refine ⟨⟨by omega, by omega⟩, ?_⟩
  kernel_rfl
theorem lies_own {n i : Nat} (h : i < n) : liesAt Tryz.prog Tryz.prog.depth 23 n (i * 2) 23 1 = true := by
  have hd : Tryz.prog.depth = Tryz.prog.depth - 1 + 1 := by kernel_rfl
  rw [hd]
  unfold liesAt
  rw [underEC]
  simp only [Bool.or_false]
  rw [hd]
  exact rowAt_own h
theorem OwE.el {w : World} {S : Nat} {v : Value} {xs : List (Int × Int)} (h : OwE w S v xs) : El w v xs := by
  refine ⟨(Es_of_own h).1, fun b off len cap e i hi => ?_⟩
  obtain ⟨h1, h2⟩ := h
  rcases h2 with ⟨rfl, h0⟩ | ⟨g, cap', cur, rfl, _, hg, hnc, hcm, hcs, htake⟩
  · cases e
  · simp only [Value.slice.injEq, Option.some.injEq, Addr.mk.injEq, and_true] at e
    obtain ⟨⟨rfl, rfl⟩, rfl, rfl⟩ := e
    have hE := (Es_of_own (w := w) (base := S) (n := xs.length) (v := .slice (some ⟨g, 0, none⟩) xs.length cap') ⟨h1, .inr ⟨g, cap', cur, rfl, by assumption, hg, hnc, hcm, hcs, htake⟩⟩).1
    refine ⟨⟨_, (hE.all hi).2.1⟩, 23, cur.size, ?_, ?_⟩
    · unfold World.shape?; rw [hg]
    · rw [cellsEC, Nat.zero_add]
      exact lies_own (by rw [hcs, Nat.mul_div_cancel _ (by decide)]; omega)
/-- A new echo. -/
theorem pts_new (w : World) (y1 y2 : Int) (g : Nat) (hg : g = w.heap.size) : Pts (w.alloc (.cells #[.int .i64 y1, .int .i64 y2] 23)) ⟨g, 0, none⟩ := by
  subst hg
  refine ⟨⟨.int .i64 y1, by simp⟩, 23, 2, ?_, ?_⟩
  · unfold World.shape?
    rw [World.alloc_heap_new w (.cells #[.int .i64 y1, .int .i64 y2] 23)]
    rfl
  · rw [cellsEC]
    exact lies_own (n := 1) (i := 0) (by decide)
end Go.Proofs.YthnajpckhoomgaaGreat
namespace Go.Proofs.YthnajpckhoomgaaGreat
set_option maxRecDepth 100000

/-- An echo whose number and epoch are in their bounds. -/
def EcIn (y : Int × Int) : Prop := (0 ≤ y.1 ∧ y.1 < 64) ∧ EpOk y.2
theorem ec_get {ys : List (Int × Int)} {i : Nat} (h : i < ys.length) : ys.getD i (0, 0) = ys[i] := by simp [List.getD, h]
theorem BeOk.mono {M : Int} {ys : List (Int × Int)} (h : BeOk M ys) {i j : Nat} (hij : i < j) (hj : j < ys.length) : (ys.getD i (0, 0)).1 < (ys.getD j (0, 0)).1 := by
  induction j with
  | zero => omega
  | succ j ih =>
    have h2 := (h.1 (j + 1) hj).2.1 (by omega)
    rw [Nat.add_sub_cancel] at h2
    by_cases e : i = j
    · subst e; exact h2
    · exact Int.lt_trans (ih (by omega) (by omega)) h2
/-- A right beacon: sorted, each echo in its bounds. -/
theorem beok_iff {M : Int} {ys : List (Int × Int)} : BeOk M ys ↔ ys.Pairwise (fun a b => a.1 < b.1) ∧ (∀ y ∈ ys, EcIn y) ∧ EpOk M := by
  constructor
  · intro h
    refine ⟨List.pairwise_iff_getElem.2 fun i j hi hj hij => ?_, fun y hy => ?_, h.2⟩
    · have := h.mono hij hj
      rwa [ec_get hi, ec_get hj] at this
    · obtain ⟨i, hi, rfl⟩ := List.mem_iff_getElem.1 hy
      have := h.1 i hi
      unfold EcAt at this
      rw [ec_get hi] at this
      exact ⟨this.1, this.2.2⟩
  · rintro ⟨h1, h2, h3⟩
    refine ⟨fun i hi => ?_, h3⟩
    have h4 := h2 _ (List.getElem_mem hi)
    unfold EcAt
    rw [ec_get hi]
    refine ⟨h4.1, fun hp => ?_, h4.2⟩
    rw [ec_get (show i - 1 < ys.length by omega)]
    exact List.pairwise_iff_getElem.1 h1 (i - 1) i (by omega) hi (by omega)
end Go.Proofs.YthnajpckhoomgaaGreat
namespace Go.Proofs.YthnajpckhoomgaaGreat
set_option maxRecDepth 100000
open Go.RowKit Go.Sort

theorem Own6.set {w : World} {g : Nat} {m : Bool} {x1 x2 x3 x4 x5 : Int} (h : Own6 w g m x1 x2 x3 x4 x5) (n : Bool) (t o r d i : Int) : Own6 ((((((w.setCell ⟨g, 0, none⟩ (.bool n)).setCell ⟨g, 1, none⟩ (.int .i64 t)).setCell ⟨g, 2, none⟩ (.int .i64 o)).setCell ⟨g, 3, none⟩ (.int .i64 r)).setCell ⟨g, 4, none⟩ (.int .i64 d)).setCell ⟨g, 5, none⟩ (.int .i64 i)) g n t o r d i :=
  ⟨set6 h.1 n t o r d i, fun k => by simp [go_sem, h.2]⟩
end Go.Proofs.YthnajpckhoomgaaGreat
namespace Go.Proofs.YthnajpckhoomgaaGreat
set_option maxRecDepth 100000
open Go.RowKit

theorem Zs_open {w : World} {v : Value} {xs : List Int} (h : Zs w v xs) : ∃ a cap, v = .slice a xs.length cap ∧ (a = none → cap = 0) ∧ xs.length ≤ cap ∧ ∀ i, i < xs.length → ∃ b off, a = some ⟨b, off, none⟩ ∧ w.cell? ⟨b, off + i, none⟩ = some (.int .i64 (xs.getD i 0)) := by
  obtain ⟨hl, ⟨a, cap, rfl, hz, rfl⟩ | ⟨b, off, cap, rfl, hcap, hc⟩⟩ := h
  · exact ⟨a, cap, rfl, hz, Nat.zero_le _, fun i hi => absurd hi (Nat.not_lt_zero _)⟩
  · exact ⟨some ⟨b, off, none⟩, cap, rfl, (by intro h; cases h), hcap, fun i hi => ⟨b, off, rfl, hc i hi⟩⟩
end Go.Proofs.YthnajpckhoomgaaGreat
