/- What the program's sensor remembers, as one block of cells; an atomic pointer to it. No conditions. -/
import Derived.Test.YtcddicaebecneaaSnt
import Derived.Test.YtcddicaebecneaaEpr
import Derived.Laws.Rows
import Derived.Laws.Tables
import Derived.Laws.CopyOwn
namespace Go.Proofs.Ytcddicaebecneaa
set_option maxRecDepth 100000
open Go.RowKit Go.WideShapes Go.ChangeShapes

theorem underRH : Try.prog.underlying 74 = some (.slice 81) := by kernel_rfl
theorem infoRH : (Try.prog.info? 81).map (fun i => (i.zero, i.size, i.bytes)) = some (some (.agg #[.bool false, .int .i64 0, .int .i64 0, .bool false]), 4, 32) := by kernel_rfl
theorem cellsRH : Try.prog.cellsOf 81 = 4 := by kernel_rfl
def hdc (y : Hd) : List Value := [.bool y.1, .int .i64 y.2.1, .int .i64 y.2.2.1, .bool y.2.2.2]
theorem hdc_ones : ∀ y, ∀ u ∈ hdc y, u.oneCell' = true := by
  intro y u hu
  simp only [hdc, List.mem_cons, List.not_mem_nil, or_false] at hu
  rcases hu with rfl | rfl | rfl | rfl <;> rfl
noncomputable def RH : RowT where
  α := Hd
  d := zHd
  cl := hdc
  K := 4
  T := 81
  SL := 74
  zero := .agg #[.bool false, .int .i64 0, .int .i64 0, .bool false]
  bytes := 32
  hcl := fun _ => rfl
  hK := by decide
  hone := hdc_ones
  hSL := underRH
  hinfo := infoRH
  hz := rfl
  hb := by decide
  hc := cellsRH
/-- The cells of what is remembered. -/
noncomputable def mcs (now : Int) (L : List Hd) : Array Value := (Value.int .i64 now :: gflat RH L).toArray
theorem mcs_size {L : List Hd} (hL : L.length = 64) (now : Int) : (mcs now L).size = 257 := by
  have h : (gflat RH L).length = 256 := (gflat_len RH L).trans (show L.length * 4 = 256 by rw [hL])
  show (gflat RH L).length + 1 = 257
  rw [h]
theorem mcs_zero (now : Int) (L : List Hd) : (mcs now L)[0]? = some (.int .i64 now) := rfl
theorem mcs_at (now : Int) {L : List Hd} {i j : Nat} (hi : i < L.length) (hj : j < 4) : (mcs now L)[1 + i * 4 + j]? = (hdc (L.getD i zHd))[j]? := by
  have h := gflat_at RH L i j hi hj
  have e : i * RH.K + j = i * 4 + j := rfl
  rw [e] at h
  unfold mcs
  rw [List.getElem?_toArray, show 1 + i * 4 + j = (i * 4 + j) + 1 by omega, List.getElem?_cons_succ]
  exact h
theorem mcs_ext {cs : Array Value} {now : Int} {L : List Hd} (hL : L.length = 64) (hs : cs.size = 257) (h0 : cs[0]? = some (.int .i64 now)) (h : ∀ i, i < 64 → ∀ j, j < 4 → cs[1 + i * 4 + j]? = (hdc (L.getD i zHd))[j]?) : cs = mcs now L := by
  have hm := mcs_size hL now
  refine Array.ext_getElem? fun k => ?_
  by_cases e0 : k = 0
  · rw [e0, h0, mcs_zero]
  · by_cases e1 : k < 257
    · have ek : k = 1 + (k - 1) / 4 * 4 + (k - 1) % 4 := by omega
      have a1 := h ((k - 1) / 4) (by omega) ((k - 1) % 4) (by omega)
      have a2 := mcs_at now (L := L) (i := (k - 1) / 4) (j := (k - 1) % 4) (by omega) (by omega)
      rw [← ek] at a1 a2
      rw [a1, a2]
    · rw [Array.getElem?_eq_none (by omega), Array.getElem?_eq_none (by omega)]
theorem mcs_one (now : Int) (L : List Hd) : (mcs now L).all (·.oneCell') = true := by
  rw [Array.all_eq_true_iff_forall_mem]
  intro v hv
  unfold mcs at hv
  rw [List.mem_toArray, List.mem_cons] at hv
  rcases hv with rfl | hv
  · rfl
  · have hv' : v ∈ L.flatMap hdc := hv
    rw [List.mem_flatMap] at hv'
    obtain ⟨y, _, hy⟩ := hv'
    exact hdc_ones y v hy
theorem underTM : ∃ fs, Try.prog.underlying 73 = some (.struct fs) := ⟨Try.prog.fieldsOf 73, by kernel_rfl⟩
theorem infoTM : (Try.prog.info? 73).map (·.size) = some 257 := by kernel_rfl
theorem zeroTM (w : World) : (zeroValue 73).run Try.prog w = .ok (.agg (mcs 0 (List.replicate 64 zHd))) w := by kernel_rfl
/-- At block m lies what is remembered. -/
def Mem (w : World) (m : Nat) (now : Int) (L : List Hd) : Prop := w.heap[m]? = some (.cells (mcs now L) 73 (0, 0)) ∧ L.length = 64
theorem Mem.lt {w : World} {m : Nat} {now : Int} {L : List Hd} (h : Mem w m now L) : m < w.heap.size := by
  by_cases e : m < w.heap.size
  · exact e
  · have := h.1
    rw [Array.getElem?_eq_none (by omega)] at this
    cases this
theorem Mem.cell {w : World} {m : Nat} {now : Int} {L : List Hd} (h : Mem w m now L) (k : Nat) : w.cell? ⟨m, k, none⟩ = (mcs now L)[k]? := cell_of_row w m k _ _ _ h.1
theorem Mem.c0 {w : World} {m : Nat} {now : Int} {L : List Hd} (h : Mem w m now L) : w.cell? ⟨m, 0, none⟩ = some (.int .i64 now) := (h.cell 0).trans (mcs_zero now L)
theorem Mem.c4 {w : World} {m : Nat} {now : Int} {L : List Hd} (h : Mem w m now L) {i : Nat} (hi : i < 64) : C4 w m (1 + i * 4) (L.getD i zHd) := by
  have hl : i < L.length := by rw [h.2]; exact hi
  exact ⟨(h.cell _).trans (mcs_at now (j := 0) hl (by decide)), (h.cell _).trans (mcs_at now (j := 1) hl (by decide)), (h.cell _).trans (mcs_at now (j := 2) hl (by decide)), (h.cell _).trans (mcs_at now (j := 3) hl (by decide))⟩
theorem Mem.fz {w : World} {m : Nat} {now : Int} {L : List Hd} (h : Mem w m now L) (k : Nat) : w.frozen? ⟨m, k, none⟩ = false := by
  unfold World.frozen?
  simp only [h.1]
  simp
theorem Mem.low {w w' : World} {m : Nat} {now : Int} {L : List Hd} (h : Mem w m now L) (e : w'.heap[m]? = w.heap[m]?) : Mem w' m now L := ⟨e.trans h.1, h.2⟩
theorem Mem.below {w w' : World} {B m : Nat} {now : Int} {L : List Hd} (h : Mem w m now L) (hb : Below B w w') (hm : m < B) : Mem w' m now L := h.low (hb.block m hm)
theorem Mem.chg {F : Nat → Prop} {w w' : World} {m : Nat} {now : Int} {L : List Hd} (h : Mem w m now L) (hc : Chg F w w') (hn : ¬ F m) : Mem w' m now L := h.low (hc.block m h.lt hn)
theorem Mem.off {w : World} {m : Nat} {now : Int} {L : List Hd} (h : Mem w m now L) {b k : Nat} (hb : m ≠ b) (u : Value) : Mem (w.setCell ⟨b, k, none⟩ u) m now L := h.low (Below.heap_setCell w ⟨b, k, none⟩ u m hb)
theorem Mem.alloc {w : World} {m : Nat} {now : Int} {L : List Hd} (h : Mem w m now L) (o : Obj) : Mem (w.alloc o) m now L := h.low (heap_alloc_old w o h.lt)
theorem mem_new (w : World) (now : Int) {L : List Hd} (hL : L.length = 64) : Mem (w.alloc (.cells (mcs now L) 73)) w.heap.size now L := ⟨heap_alloc_new w _, hL⟩
theorem mem_row {w : World} {m : Nat} {n0 : Int} {L0 : List Hd} (h : Mem w m n0 L0) (now : Int) {L : List Hd} (hL : L.length = 64) : Mem (w.setRow m (mcs now L)) m now L := ⟨setRow_heap w m _ _ _ _ h.1, hL⟩
theorem Mem.setNow {w : World} {m : Nat} {now : Int} {L : List Hd} (h : Mem w m now L) (n : Int) : Mem (w.setCell ⟨m, 0, none⟩ (.int .i64 n)) m n L := by
  rw [setCell_eq_setRow w m 0 _ _ _ (.int .i64 n) h.1]
  have e : (mcs now L).setIfInBounds 0 (.int .i64 n) = mcs n L := by
    refine mcs_ext h.2 (by rw [Array.size_setIfInBounds]; exact mcs_size h.2 now) (by rw [Array.getElem?_setIfInBounds, if_pos rfl, if_pos (by rw [mcs_size h.2]; decide)]) fun i hi j hj => ?_
    rw [Array.getElem?_setIfInBounds, if_neg (by omega)]
    exact mcs_at now (by rw [h.2]; exact hi) hj
  rw [e]
  exact mem_row h n h.2
theorem Mem.put {w : World} {m : Nat} {now : Int} {L : List Hd} (h : Mem w m now L) {i : Nat} (hi : i < 64) (z : Hd) : Mem (chain4 w m (1 + i * 4) z) m now (L.set i z) := by
  have hs := mcs_size h.2 now
  have hL : (L.set i z).length = 64 := by rw [List.length_set]; exact h.2
  unfold chain4
  have g1 := setRow_heap w m _ ((mcs now L).setIfInBounds (1 + i * 4) (.bool z.1)) _ _ h.1
  rw [setCell_eq_setRow w m _ _ _ _ _ h.1]
  have g2 := setRow_heap _ m _ (((mcs now L).setIfInBounds (1 + i * 4) (.bool z.1)).setIfInBounds (1 + i * 4 + 1) (.int .i64 z.2.1)) _ _ g1
  rw [setCell_eq_setRow _ m _ _ _ _ _ g1]
  have g3 := setRow_heap _ m _ ((((mcs now L).setIfInBounds (1 + i * 4) (.bool z.1)).setIfInBounds (1 + i * 4 + 1) (.int .i64 z.2.1)).setIfInBounds (1 + i * 4 + 2) (.int .i64 z.2.2.1)) _ _ g2
  rw [setCell_eq_setRow _ m _ _ _ _ _ g2]
  have g4 := setRow_heap _ m _ (((((mcs now L).setIfInBounds (1 + i * 4) (.bool z.1)).setIfInBounds (1 + i * 4 + 1) (.int .i64 z.2.1)).setIfInBounds (1 + i * 4 + 2) (.int .i64 z.2.2.1)).setIfInBounds (1 + i * 4 + 3) (.bool z.2.2.2)) _ _ g3
  rw [setCell_eq_setRow _ m _ _ _ _ _ g3]
  have e : ((((mcs now L).setIfInBounds (1 + i * 4) (.bool z.1)).setIfInBounds (1 + i * 4 + 1) (.int .i64 z.2.1)).setIfInBounds (1 + i * 4 + 2) (.int .i64 z.2.2.1)).setIfInBounds (1 + i * 4 + 3) (.bool z.2.2.2) = mcs now (L.set i z) := by
    refine mcs_ext hL (by simp only [Array.size_setIfInBounds]; exact hs) ?_ fun k hk j hj => ?_
    · simp only [Array.getElem?_setIfInBounds]
      rw [if_neg (by omega), if_neg (by omega), if_neg (by omega), if_neg (by omega)]
      exact mcs_zero now L
    · have hm := mcs_at now (L := L) (i := k) (j := j) (by rw [h.2]; exact hk) hj
      have hb : 1 + k * 4 + j < 257 := by omega
      simp only [Array.getElem?_setIfInBounds, Array.size_setIfInBounds, hs]
      by_cases e : i = k
      · subst e
        have e2 : (L.set i z).getD i zHd = z := by simp [List.getD, h.2, hi]
        rw [e2]
        have hj' : j = 0 ∨ j = 1 ∨ j = 2 ∨ j = 3 := by omega
        rcases hj' with rfl | rfl | rfl | rfl
        · rw [if_neg (by omega), if_neg (by omega), if_neg (by omega), if_pos (by omega), if_pos (by omega)]; rfl
        · rw [if_neg (by omega), if_neg (by omega), if_pos rfl, if_pos (by omega)]; rfl
        · rw [if_neg (by omega), if_pos rfl, if_pos (by omega)]; rfl
        · rw [if_pos rfl, if_pos (by omega)]; rfl
      · have e2 : (L.set i z).getD k zHd = L.getD k zHd := by simp [List.getD, e]
        rw [e2, if_neg (by omega), if_neg (by omega), if_neg (by omega), if_neg (by omega)]
        exact hm
  rw [e] at g4 ⊢
  exact ⟨g4, hL⟩
/-- Loads and stores of all that is remembered. -/
theorem load_mem {w : World} {m : Nat} {now : Int} {L : List Hd} (h : Mem w m now L) : (loadVar 73 ⟨m, 0, none⟩).run Try.prog w = .ok (.agg (mcs now L)) w := by
  obtain ⟨fs, hu⟩ := underTM
  exact run_loadVar_row w m 73 73 _ (0, 0) _ h.1 hu rfl (by rw [mcs_size h.2]; exact infoTM)
theorem store_mem {w : World} {m : Nat} {n0 : Int} {L0 : List Hd} (h : Mem w m n0 L0) (now : Int) {L : List Hd} (hL : L.length = 64) : (storeVar 73 ⟨m, 0, none⟩ (.agg (mcs now L))).run Try.prog w = .ok () (w.setRow m (mcs now L)) :=
  run_storeVar_row w m 73 73 _ _ h.1 (by rw [mcs_size hL]; exact infoTM) (by rw [mcs_size hL, mcs_size h.2]) (mcs_one now L)
theorem loadAt_mem {w : World} {m : Nat} {now : Int} {L : List Hd} (h : Mem w m now L) : (Instr.loadAt 73 (.pointer (some ⟨m, 0, none⟩))).run Try.prog w = .ok (.agg (mcs now L)) w := by
  simp only [Instr.loadAt, Instr.sureAddr, Sem.run_bind, Sem.run_pure, Result.andThen]
  exact load_mem h
theorem storeAt_mem {w : World} {m : Nat} {n0 : Int} {L0 : List Hd} (h : Mem w m n0 L0) (now : Int) {L : List Hd} (hL : L.length = 64) : (Instr.storeAt 73 (.pointer (some ⟨m, 0, none⟩)) (.agg (mcs now L))).run Try.prog w = .ok () (w.setRow m (mcs now L)) := by
  simp only [Instr.storeAt, Instr.sureAddr, Sem.run_bind, Sem.run_pure, Result.andThen]
  exact store_mem h now hL
theorem storeC_mem {w : World} {m : Nat} {n0 : Int} {L0 : List Hd} (h : Mem w m n0 L0) (now : Int) {L : List Hd} (hL : L.length = 64) : (storeCells ⟨m, 0, none⟩ (mcs now L).toList).run Try.prog w = .ok () (w.setRow m (mcs now L)) := by
  have hv := store_mem h now hL
  obtain ⟨i, h1, h2⟩ := Option.map_eq_some_iff.1 infoTM
  have hs := mcs_size hL now
  simpa [storeVar, sizeOf, typeInfo, h1, h2, Value.cells, hs] using hv
/-- What is remembered lies there, to be pointed to. -/
def PtM (w : World) (a : Addr) : Prop := (∃ v, w.cell? a = some v) ∧ ∃ e n, w.shape? a.block = some (e, n) ∧ liesAt Try.prog Try.prog.depth e (n / Try.prog.cellsOf e) a.off 73 1 = true
theorem PtM.low {w w' : World} {a : Addr} (h : PtM w a) (hb : w'.heap[a.block]? = w.heap[a.block]?) : PtM w' a := by
  obtain ⟨⟨v, h1⟩, e, n, h2, h3⟩ := h
  refine ⟨⟨v, by rw [World.cell?_of_block hb]; exact h1⟩, e, n, ?_, h3⟩
  unfold World.shape? at h2 ⊢
  rw [hb]; exact h2
theorem PtM.set {w : World} {a : Addr} (h : PtM w a) {b j : Nat} (hb : a.block ≠ b) (v : Value) : PtM (w.setCell ⟨b, j, none⟩ v) a := h.low (Below.heap_setCell w ⟨b, j, none⟩ v a.block hb)
theorem cellsTM : Try.prog.cellsOf 73 = 257 := by kernel_rfl
theorem lies_mem : liesAt Try.prog Try.prog.depth 73 1 0 73 1 = true := by
  have hd : Try.prog.depth = Try.prog.depth - 1 + 1 := by kernel_rfl
  obtain ⟨fs, hu⟩ := underTM
  rw [hd]
  unfold liesAt
  rw [hu]
  simp only [Bool.or_eq_true_iff]
  left
  rw [hd]
  unfold rowAt
  simp only [cellsTM]
  rw [if_neg (by decide), Bool.or_eq_true_iff]
  left
  simp only [Bool.and_eq_true, beq_iff_eq, decide_eq_true_eq]
  refine ⟨⟨by decide, by decide⟩, ?_⟩
  kernel_rfl
theorem Mem.pt {w : World} {m : Nat} {now : Int} {L : List Hd} (h : Mem w m now L) : PtM w ⟨m, 0, none⟩ := by
  refine ⟨⟨_, h.c0⟩, 73, 257, ?_, ?_⟩
  · unfold World.shape?
    simp only [h.1, mcs_size h.2]
  · rw [cellsTM]
    exact lies_mem
theorem underPM : Try.prog.underlying 59 = some (.pointer 73) := by kernel_rfl
theorem infoM2 : ∃ i, Try.prog.info? 73 = some i ∧ i.size = 257 := by
  obtain ⟨i, h1, h2⟩ := Option.map_eq_some_iff.1 infoTM
  exact ⟨i, h1, h2⟩
theorem conv_toM {a : Addr} {w : World} (h : PtM w a) : (convert 59 63 (.pointer (some a))).run Try.prog w = .ok (.pointer (some a)) w := by
  obtain ⟨⟨v, h1⟩, _⟩ := h
  exact run_convert_to_unsafe underPM underUP (by kernel_rfl) h1
theorem conv_ofM {a : Addr} {w : World} (h : PtM w a) : (convert 63 59 (.pointer (some a))).run Try.prog w = .ok (.pointer (some a)) w := by
  obtain ⟨⟨v, h1⟩, e, n, h2, h3⟩ := h
  obtain ⟨i, hi, hz⟩ := infoM2
  simp [convert, Conv.unsafePointer, Conv.seenAt, viewAt, sizeOf, typeInfo, run_underlying underPM, run_underlying underUP, hi, hz, h2, h3, variablesAt, Result.andThen]
theorem mload (b j : Nat) (a : Addr) (w : World) (hc : w.cell? ⟨b, j, none⟩ = some (.pointer (some a))) (hx : PtM w a) :
    Calls Try.prog 42 #[.pointer (some ⟨b, j, none⟩)] w fun e w' => e = .returned (.pointer (some a)) ∧ w = w' := by
  have hl := run_call_loadP (P := Try.prog) (f := 49) Try.func49 (by kernel_rfl) (by kernel_rfl) (by kernel_rfl) (by kernel_rfl) hc
  have hv := conv_ofM hx
  go_enter Try.func42, Try.ntmps42
  go_wp2
  go_ret
  exact ⟨rfl, rfl⟩
theorem mstore (b j : Nat) (x : Option Addr) (a : Addr) (w : World) (hc : w.cell? ⟨b, j, none⟩ = some (.pointer x)) (hf : w.frozen? ⟨b, j, none⟩ = false) (hx : PtM w a) :
    Calls Try.prog 27 #[.pointer (some ⟨b, j, none⟩), .pointer (some a)] w fun e w' => e = .returned (.tuple #[]) ∧ w' = w.setCell ⟨b, j, none⟩ (.pointer (some a)) := by
  have hl := run_call_storeP (P := Try.prog) (f := 41) (x := some a) Try.func41 (by kernel_rfl) (by kernel_rfl) (by kernel_rfl) (by kernel_rfl) hc hf
  have hv := conv_toM hx
  go_enter Try.func27, Try.ntmps27
  go_wp2
  go_end0
  exact ⟨rfl, rfl⟩
theorem mswap (b j : Nat) (y : Addr) (a : Addr) (w : World) (hc : w.cell? ⟨b, j, none⟩ = some (.pointer (some y))) (hf : w.frozen? ⟨b, j, none⟩ = false) (hx : PtM w a) (hy : PtM w y) (hb : y.block ≠ b) :
    Calls Try.prog 43 #[.pointer (some ⟨b, j, none⟩), .pointer (some a)] w fun e w' => e = .returned (.pointer (some y)) ∧ w' = w.setCell ⟨b, j, none⟩ (.pointer (some a)) := by
  have hl := run_call_swapP (P := Try.prog) (f := 50) (x := some a) Try.func50 (by kernel_rfl) (by kernel_rfl) (by kernel_rfl) (by kernel_rfl) hc hf
  have hv := conv_toM hx
  have hu := conv_ofM (hy.set (b := b) (j := j) hb (.pointer (some a)))
  go_enter Try.func43, Try.ntmps43
  go_wp2
  go_ret
  exact ⟨rfl, rfl⟩
end Go.Proofs.Ytcddicaebecneaa
