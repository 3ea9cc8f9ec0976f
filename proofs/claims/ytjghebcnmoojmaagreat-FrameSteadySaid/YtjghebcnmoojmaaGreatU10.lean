/- Which beacons are right: the reference's Right. No conditions but on lengths. Beacons without an echo: the reference's Without. No conditions but on lengths. An atomic pointer to an echo of a row; where the echoes of a row lie. No conditions. Beacons with an echo: the reference's With. No conditions but on lengths. Mathematics of beacons: right ones are sorted; With and Without as filters. No conditions. A beacon as bytes: the reference's Bytes. No conditions but on lengths. A beacon out of bytes: the reference's Parse. No conditions but on lengths. Acks out of bytes, as the document says it. No conditions. A row of acks as bytes: the reference's Bytes. No conditions but on lengths. -/
import Derived.Test.YtjghebcnmoojmaaGreatU08
import Derived.Test.YtjghebcnmoojmaaGreatU09
import Derived.Laws.LoneSync
import Derived.Deep.Cut
namespace Go.Proofs.YtjghebcnmoojmaaGreat
set_option maxRecDepth 100000
open Go.RowKit

def EcAt (ys : List (Int × Int)) (i : Nat) : Prop := (0 ≤ (ys.getD i (0, 0)).1 ∧ (ys.getD i (0, 0)).1 < 64) ∧ (0 < i → (ys.getD (i - 1) (0, 0)).1 < (ys.getD i (0, 0)).1) ∧ EpOk (ys.getD i (0, 0)).2
instance (ys : List (Int × Int)) (i : Nat) : Decidable (EcAt ys i) := by unfold EcAt; infer_instance
def BeOk (M : Int) (ys : List (Int × Int)) : Prop := (∀ i, i < ys.length → EcAt ys i) ∧ EpOk M
instance (M : Int) (ys : List (Int × Int)) : Decidable (BeOk M ys) := by unfold BeOk; infer_instance
end Go.Proofs.YtjghebcnmoojmaaGreat

namespace Go.Proofs.YtjghebcnmoojmaaGreat
set_option maxRecDepth 100000
open Go.RowKit

theorem ec_alloc (w : World) (y1 y2 : Int) : GC RE (w.alloc (.cells #[.int .i64 y1, .int .i64 y2] 113)) w.heap.size 0 (y1, y2) := gc_alloc RE w (y1, y2) _ rfl 113
def OwE (w : World) (S : Nat) (v : Value) (xs : List (Int × Int)) : Prop := w.ownsRow S 113 2 v xs.length (eflat xs)
theorem OwE.form {w : World} {S : Nat} {v : Value} {xs : List (Int × Int)} (h : OwE w S v xs) : ∃ a c, v = .slice a xs.length c := gown_form h
theorem OwE.lt {w : World} {S : Nat} {v : Value} {xs : List (Int × Int)} (h : OwE w S v xs) (b : Nat) (hb : v.ownBlock = some b) : S ≤ b ∧ b < w.heap.size := World.ownsRow.lt h b hb
theorem OwE.set {w : World} {S b : Nat} {v u : Value} {xs : List (Int × Int)} (h : OwE w S v xs) (hb : b < S) (j : Nat) : OwE (w.setCell ⟨b, j, none⟩ u) S v xs := gown_apart h hb j
theorem OwE.mono {w : World} {S B : Nat} {v : Value} {xs : List (Int × Int)} (h : OwE w S v xs) (hB : B ≤ S) : OwE w B v xs := gown_mono h hB
theorem OwnB2.set {w : World} {b : Nat} {M : Int} {v : Value} (h : OwnB2 w b M v) (M' : Int) (v' : Value) : OwnB2 ((w.setCell ⟨b, 0, none⟩ (.int .i64 M')).setCell ⟨b, 1, none⟩ v') b M' v' := by
 obtain ⟨⟨h0, h1⟩, hf⟩ := h
 refine ⟨⟨?_, ?_⟩, fun j => ?_⟩ <;> simp [go_sem, hf, h0, h1]
end Go.Proofs.YtjghebcnmoojmaaGreat

namespace Go.Proofs.YtjghebcnmoojmaaGreat
set_option maxRecDepth 100000
open Go.RowKit Go.WideShapes Go.ChangeShapes

section
variable {P : Program} {f : FuncId} {fn : Func}
theorem run_call_loadP (hf : P.funcs[f]? = some fn) (hname : (fn.name == "runtime.NumGoroutine") = false) (hb : fn.body.isNone = true) (hn : Extern.findNext fn = none)
  (he : Extern.find fn = some (Extern.Atomic.loadT .ptr)) {a : Addr} {x : Option Addr} {w : World} (hc : w.cell? a = some (.pointer x)) :
  (callFunc f #[.pointer (some a)]).run P w = .ok (.value (.pointer x)) w := by
 rw [run_callFunc_extern hf hname hb hn he]
 change (Sem.run P (do Extern.Atomic.read .ptr (← asAddr (.pointer (some a)))) w).andThen _ = _
 simp [Extern.Atomic.read, asAddr, hc, Result.andThen]
theorem run_call_storeP (hf : P.funcs[f]? = some fn) (hname : (fn.name == "runtime.NumGoroutine") = false) (hb : fn.body.isNone = true) (hn : Extern.findNext fn = none)
  (he : Extern.find fn = some Extern.Atomic.storeT) {a : Addr} {x : Option Addr} {u : Value} {w : World} (hc : w.cell? a = some u) (hz : w.frozen? a = false) :
  (callFunc f #[.pointer (some a), .pointer x]).run P w = .ok (.value (.tuple #[])) (w.setCell a (.pointer x)) := by
 rw [run_callFunc_extern hf hname hb hn he]
 change (Sem.run P (do
  store (← asAddr (.pointer (some a))) (.pointer x) .atomic
  pure Extern.Atomic.none_) w).andThen _ = _
 simp [asAddr, hc, hz, run_store P w a (.pointer x) .atomic rfl, Result.andThen, Extern.Atomic.none_]
theorem run_call_swapP (hf : P.funcs[f]? = some fn) (hname : (fn.name == "runtime.NumGoroutine") = false) (hb : fn.body.isNone = true) (hn : Extern.findNext fn = none)
  (he : Extern.find fn = some (Extern.Atomic.swapT .ptr)) {a : Addr} {x y : Option Addr} {w : World} (hc : w.cell? a = some (.pointer y)) (hz : w.frozen? a = false) :
  (callFunc f #[.pointer (some a), .pointer x]).run P w = .ok (.value (.pointer y)) (w.setCell a (.pointer x)) := by
 rw [run_callFunc_extern hf hname hb hn he]
 change (Sem.run P (do
  let a' ← asAddr (.pointer (some a))
  let old ← Extern.Atomic.read .ptr a'
  store a' (.pointer x) .atomic
  pure old) w).andThen _ = _
 simp [Extern.Atomic.read, asAddr, hc, hz, run_store P w a (.pointer x) .atomic rfl, Result.andThen]
end

def Pts (w : World) (a : Addr) : Prop := (∃ v, w.cell? a = some v) ∧ ∃ e n, w.shape? a.block = some (e, n) ∧ liesAt Tryz.prog Tryz.prog.depth e (n / Tryz.prog.cellsOf e) a.off 113 1 = true
theorem Pts.low {w w' : World} {a : Addr} (h : Pts w a) (hb : w'.heap[a.block]? = w.heap[a.block]?) : Pts w' a := by
 obtain ⟨⟨v, h1⟩, e, n, h2, h3⟩ := h
 refine ⟨⟨v, by rw [World.cell?_of_block hb]; exact h1⟩, e, n, ?_, h3⟩
 unfold World.shape? at h2 ⊢
 rw [hb]; exact h2
theorem Pts.below {w w' : World} {a : Addr} {B : Nat} (h : Pts w a) (hb : Below B w w') (hB : a.block < B) : Pts w' a := h.low (hb.block a.block hB)
theorem Pts.set {w : World} {a : Addr} (h : Pts w a) {b j : Nat} (hb : a.block ≠ b) (v : Value) : Pts (w.setCell ⟨b, j, none⟩ v) a := h.low (Below.heap_setCell w ⟨b, j, none⟩ v a.block hb)
theorem underEP : Tryz.prog.underlying 171 = some (.pointer 113) := by kernel_rfl
theorem underUP : Tryz.prog.underlying 173 = some .unsafePointer := by kernel_rfl
theorem infoE2 : ∃ i, Tryz.prog.info? 113 = some i ∧ i.size = 2 := by
 have h : (Tryz.prog.info? 113).map (fun i => i.size) = some 2 := by kernel_rfl
 obtain ⟨i, h1, h2⟩ := Option.map_eq_some_iff.1 h
 exact ⟨i, h1, h2⟩
theorem conv_to {a : Addr} {w : World} (h : Pts w a) : (convert 171 173 (.pointer (some a))).run Tryz.prog w = .ok (.pointer (some a)) w := by
 obtain ⟨⟨v, h1⟩, _⟩ := h
 exact run_convert_to_unsafe underEP underUP (by kernel_rfl) h1
theorem conv_of {a : Addr} {w : World} (h : Pts w a) : (convert 173 171 (.pointer (some a))).run Tryz.prog w = .ok (.pointer (some a)) w := by
 obtain ⟨⟨v, h1⟩, e, n, h2, h3⟩ := h
 obtain ⟨i, hi, hz⟩ := infoE2
 simp [convert, Conv.unsafePointer, Conv.seenAt, viewAt, sizeOf, typeInfo, run_underlying underEP, run_underlying underUP, hi, hz, h2, h3, variablesAt, Result.andThen]
theorem load39 (b : Nat) (a : Addr) (w : World) (hc : w.cell? ⟨b, 0, none⟩ = some (.pointer (some a))) (hx : Pts w a) :
  Calls Tryz.prog 126 #[.pointer (some ⟨b, 0, none⟩)] w fun e w' => e = .returned (.pointer (some a)) ∧ w = w' := by
 have hl := run_call_loadP (P := Tryz.prog) (f := 144) Tryz.func144 (by kernel_rfl) (by kernel_rfl) (by kernel_rfl) (by kernel_rfl) hc
 have hv := conv_of hx
 go_enter Tryz.func126, Tryz.ntmps126
 go_wp2
 go_ret
 exact ⟨rfl, rfl⟩
theorem store37 (b : Nat) (x : Option Addr) (a : Addr) (w : World) (hc : w.cell? ⟨b, 0, none⟩ = some (.pointer x)) (hf : w.frozen? ⟨b, 0, none⟩ = false) (hx : Pts w a) :
  Calls Tryz.prog 124 #[.pointer (some ⟨b, 0, none⟩), .pointer (some a)] w fun e w' => e = .returned (.tuple #[]) ∧ w' = w.setCell ⟨b, 0, none⟩ (.pointer (some a)) := by
 have hl := run_call_storeP (P := Tryz.prog) (f := 142) (x := some a) Tryz.func142 (by kernel_rfl) (by kernel_rfl) (by kernel_rfl) (by kernel_rfl) hc hf
 have hv := conv_to hx
 go_enter Tryz.func124, Tryz.ntmps124
 go_wp2
 go_end0
 exact ⟨rfl, rfl⟩
theorem swap38 (b : Nat) (y : Addr) (a : Addr) (w : World) (hc : w.cell? ⟨b, 0, none⟩ = some (.pointer (some y))) (hf : w.frozen? ⟨b, 0, none⟩ = false) (hx : Pts w a) (hy : Pts w y) (hb : y.block ≠ b) :
  Calls Tryz.prog 125 #[.pointer (some ⟨b, 0, none⟩), .pointer (some a)] w fun e w' => e = .returned (.pointer (some y)) ∧ w' = w.setCell ⟨b, 0, none⟩ (.pointer (some a)) := by
 have hl := run_call_swapP (P := Tryz.prog) (f := 143) (x := some a) Tryz.func143 (by kernel_rfl) (by kernel_rfl) (by kernel_rfl) (by kernel_rfl) hc hf
 have hv := conv_to hx
 have hu := conv_of (hy.set (b := b) (j := 0) hb (.pointer (some a)))
 go_enter Tryz.func125, Tryz.ntmps125
 go_wp2
 go_ret
 exact ⟨rfl, rfl⟩
def Sits (w : World) (v : Value) (n : Nat) : Prop := ∀ b off len cap, v = .slice (some ⟨b, off, none⟩) len cap → ∀ i, i < n → Pts w ⟨b, off + i * 2, none⟩
def El (w : World) (v : Value) (ys : List (Int × Int)) : Prop := Es w v ys ∧ Sits w v ys.length
theorem El.below {w w' : World} {v : Value} {ys : List (Int × Int)} (h : El w v ys) (hb : Below w.heap.size w w') : El w' v ys :=
 ⟨h.1.below hb, fun b off len cap e i hi => by
  have h2 := h.2 b off len cap e i hi
  obtain ⟨⟨u, hu⟩, _⟩ := h2
  exact Pts.below (h.2 b off len cap e i hi) hb (World.block_lt_of_cell? w _ hu)⟩
theorem El.alloc {w : World} {v : Value} {ys : List (Int × Int)} (h : El w v ys) (O : Obj) : El (w.alloc O) v ys := h.below ((Below.refl _ w).alloc (Nat.le_refl _) O)
theorem rowAt_own {d n i : Nat} (h : i < n) : rowAt Tryz.prog (sameLayout Tryz.prog Tryz.prog.depth · 113) (d + 1) 113 n (i * 2) 1 = true := by
 unfold rowAt
 simp only [cellsEC]
 rw [if_neg (by decide), Bool.or_eq_true_iff]
 left
 simp only [Bool.and_eq_true, beq_iff_eq, decide_eq_true_eq]
 refine ⟨⟨by omega, by omega⟩, ?_⟩
 kernel_rfl
theorem lies_own {n i : Nat} (h : i < n) : liesAt Tryz.prog Tryz.prog.depth 113 n (i * 2) 113 1 = true := by
 have hd : Tryz.prog.depth = Tryz.prog.depth - 1 + 1 := by kernel_rfl
 rw [hd]
 unfold liesAt
 rw [underEC]
 simp only [Bool.or_false]
 rw [hd]
 exact rowAt_own h
theorem OwE.el {w : World} {S : Nat} {v : Value} {xs : List (Int × Int)} (h : OwE w S v xs) : El w v xs := by
 refine ⟨(Es_of_own h).1, fun b off len cap e i hi => ?_⟩
 obtain ⟨h1, h2⟩ := h
 rcases h2 with ⟨rfl, h0⟩ | ⟨g, cap', cur, rfl, _, hg, hnc, hcm, hcs, htake⟩
 ·cases e
 ·simp only [Value.slice.injEq, Option.some.injEq, Addr.mk.injEq, and_true] at e
  obtain ⟨⟨rfl, rfl⟩, rfl, rfl⟩ := e
  have hE := (Es_of_own (w := w) (base := S) (n := xs.length) (v := .slice (some ⟨g, 0, none⟩) xs.length cap') ⟨h1, .inr ⟨g, cap', cur, rfl, by assumption, hg, hnc, hcm, hcs, htake⟩⟩).1
  refine ⟨⟨_, (hE.all hi).2.1⟩, 113, cur.size, ?_, ?_⟩
  ·unfold World.shape?; rw [hg]
  ·rw [cellsEC, Nat.zero_add]
   exact lies_own (by rw [hcs, Nat.mul_div_cancel _ (by decide)]; omega)
theorem pts_new (w : World) (y1 y2 : Int) (g : Nat) (hg : g = w.heap.size) : Pts (w.alloc (.cells #[.int .i64 y1, .int .i64 y2] 113)) ⟨g, 0, none⟩ := by
 subst hg
 refine ⟨⟨.int .i64 y1, by simp⟩, 113, 2, ?_, ?_⟩
 ·unfold World.shape?
  rw [World.alloc_heap_new w (.cells #[.int .i64 y1, .int .i64 y2] 113)]
  rfl
 ·rw [cellsEC]
  exact lies_own (n := 1) (i := 0) (by decide)
end Go.Proofs.YtjghebcnmoojmaaGreat

namespace Go.Proofs.YtjghebcnmoojmaaGreat
set_option maxRecDepth 100000
open Go.RowKit

def wkF (ys : List (Int × Int)) (id ep : Int) : Nat → List (Int × Int) × Bool
 | 0 => ([], false)
 | k + 1 =>
  let r := wkF ys id ep k
  let y := ys.getD k (0, 0)
  let hit := !r.2 && decide (id ≤ y.1)
  ((r.1 ++ (if hit then [(id, ep)] else [])) ++ (if y.1 ≠ id then [y] else []), r.2 || hit)
def winF (ys : List (Int × Int)) (id ep : Int) : List (Int × Int) :=
 (wkF ys id ep ys.length).1 ++ (if (wkF ys id ep ys.length).2 then [] else [(id, ep)])
variable {ys : List (Int × Int)} {id ep : Int} {k : Nat}
end Go.Proofs.YtjghebcnmoojmaaGreat

namespace Go.Proofs.YtjghebcnmoojmaaGreat
set_option maxRecDepth 100000

def EcIn (y : Int × Int) : Prop := (0 ≤ y.1 ∧ y.1 < 64) ∧ EpOk y.2
theorem ec_get {ys : List (Int × Int)} {i : Nat} (h : i < ys.length) : ys.getD i (0, 0) = ys[i] := by simp [List.getD, h]
theorem BeOk.mono {M : Int} {ys : List (Int × Int)} (h : BeOk M ys) {i j : Nat} (hij : i < j) (hj : j < ys.length) : (ys.getD i (0, 0)).1 < (ys.getD j (0, 0)).1 := by
 induction j with
 | zero => omega
 | succ j ih =>
  have h2 := (h.1 (j + 1) hj).2.1 (by omega)
  rw [Nat.add_sub_cancel] at h2
  by_cases e : i = j
  ·subst e; exact h2
  ·exact Int.lt_trans (ih (by omega) (by omega)) h2
theorem beok_iff {M : Int} {ys : List (Int × Int)} : BeOk M ys ↔ ys.Pairwise (fun a b => a.1 < b.1) ∧ (∀ y ∈ ys, EcIn y) ∧ EpOk M := by
 constructor
 ·intro h
  refine ⟨List.pairwise_iff_getElem.2 fun i j hi hj hij => ?_, fun y hy => ?_, h.2⟩
  ·have := h.mono hij hj
   rwa [ec_get hi, ec_get hj] at this
  ·obtain ⟨i, hi, rfl⟩ := List.mem_iff_getElem.1 hy
   have := h.1 i hi
   unfold EcAt at this
   rw [ec_get hi] at this
   exact ⟨this.1, this.2.2⟩
 ·rintro ⟨h1, h2, h3⟩
  refine ⟨fun i hi => ?_, h3⟩
  have h4 := h2 _ (List.getElem_mem hi)
  unfold EcAt
  rw [ec_get hi]
  refine ⟨h4.1, fun hp => ?_, h4.2⟩
  rw [ec_get (show i - 1 < ys.length by omega)]
  exact List.pairwise_iff_getElem.1 h1 (i - 1) i (by omega) hi (by omega)
end Go.Proofs.YtjghebcnmoojmaaGreat

namespace Go.Proofs.YtjghebcnmoojmaaGreat
set_option maxRecDepth 100000
open Go.RowKit

def ecB (y : Int × Int) : List Int := y.1 :: lo y.2 4
def beB (M : Int) (ys : List (Int × Int)) : List Int := lo M 4 ++ [(ys.length : Int)] ++ (ys.map ecB).flatten
theorem ecB_len (y : Int × Int) : (ecB y).length = 5 := by simp [ecB, lo_len]
theorem ecB_flat_len (ys : List (Int × Int)) : ((ys.map ecB).flatten).length = 5 * ys.length := by
 induction ys with
 | nil => rfl
 | cons y ys ih => simp only [List.map_cons, List.flatten_cons, List.length_append, ecB_len, ih, List.length_cons]; omega
theorem BeOk.lo {M : Int} {ys : List (Int × Int)} (h : BeOk M ys) : ∀ i, i < ys.length → (i : Int) ≤ (ys.getD i (0, 0)).1 := by
 intro i
 induction i with
 | zero => intro hi; exact (h.1 0 hi).1.1
 | succ i ih =>
  intro hi
  have h1 := ih (by omega)
  have h2 := (h.1 (i + 1) hi).2.1 (by omega)
  rw [Nat.add_sub_cancel] at h2
  omega
theorem BeOk.len {M : Int} {ys : List (Int × Int)} (h : BeOk M ys) : ys.length ≤ 64 := by
 by_cases h0 : ys.length = 0
 ·omega
 ·have h1 := h.lo (ys.length - 1) (by omega)
  have h2 := (h.1 (ys.length - 1) (by omega)).1.2
  omega
theorem lo_byt {v : Int} {n : Nat} : Byt (lo v n) := fun x hx => by
 obtain ⟨i, _, rfl⟩ := List.mem_map.1 hx
 omega
theorem u8_len {n : Nat} (h : n ≤ 64) : IntKind.u8.wrap (n : Int) = (n : Int) := by rw [IntKind.wrap_u8]; omega
end Go.Proofs.YtjghebcnmoojmaaGreat

namespace Go.Proofs.YtjghebcnmoojmaaGreat
set_option maxRecDepth 100000
open Go.RowKit

theorem getS_byte {xs : List Int} (hx : ∀ x ∈ xs, 0 ≤ x ∧ x < 256) (p : Int) : 0 ≤ (getS xs p 1).1 ∧ (getS xs p 1).1 ≤ 255 := by
 unfold getS
 split
 ·simp
 ·split
  ·simp
  ·have h1 := seg_bd hx p.toNat 1
   have h2 : segN xs p.toNat 1 < 256 * 1 := h1.2
   show 0 ≤ segN xs p.toNat 1 ∧ segN xs p.toNat 1 ≤ 255
   omega
end Go.Proofs.YtjghebcnmoojmaaGreat

namespace Go.Proofs.YtjghebcnmoojmaaGreat
set_option maxRecDepth 100000
open Go.RowKit

def szA (j : Nat) : Int := [1, 4, 2, 2].getD j 0
def rdP (xs : List Int) (q : Int) : Nat → Int
 | 0 => q
 | j + 1 => (getS xs (rdP xs q j) (szA j)).2.1
def rdV (xs : List Int) (q : Int) (j : Nat) : Int := (getS xs (rdP xs q j) (szA j)).1
def rdE (xs : List Int) (q : Int) (j : Nat) : Int := (getS xs (rdP xs q j) (szA j)).2.2
def akP (xs : List Int) : Nat → Int → List (Int × Int × Int × Int) → Int ⊕ (List (Int × Int × Int × Int) × Int)
 | 0, p, acc => .inr (acc, p)
 | n + 1, p, acc =>
  if rdE xs p 0 ≠ 0 then .inl (rdE xs p 0) else if rdE xs p 1 ≠ 0 then .inl (rdE xs p 1) else if rdE xs p 2 ≠ 0 then .inl (rdE xs p 2) else if rdE xs p 3 ≠ 0 then .inl (rdE xs p 3)
  else akP xs n (rdP xs p 4) (acc ++ [(rdV xs p 0, rdV xs p 1, rdV xs p 2, rdV xs p 3)])
theorem akP_go {xs : List Int} {n : Nat} {p : Int} {acc : List (Int × Int × Int × Int)} (h0 : ∀ i, i < 4 → rdE xs p i = 0) : akP xs (n + 1) p acc = akP xs n (rdP xs p 4) (acc ++ [(rdV xs p 0, rdV xs p 1, rdV xs p 2, rdV xs p 3)]) := by
 rw [akP, if_neg (not_not_intro (h0 0 (by decide))), if_neg (not_not_intro (h0 1 (by decide))), if_neg (not_not_intro (h0 2 (by decide))), if_neg (not_not_intro (h0 3 (by decide)))]
def acPF (xs : List Int) (at' : Int) : Int ⊕ (List (Int × Int × Int × Int) × Int) :=
 if (getS xs at' 1).2.2 ≠ 0 then .inl (getS xs at' 1).2.2
 else match akP xs (getS xs at' 1).1.toNat (getS xs at' 1).2.1 [] with
  | .inl e => .inl e
  | .inr (ys, to) => if AksOk ys then .inr (ys, to) else .inl 4
def PRetA (w : World) (r : Int ⊕ (List (Int × Int × Int × Int) × Int)) (u : Value) (t k : Int) (w' : World) : Prop :=
 match r with
 | .inl e => u = .slice none 0 0 ∧ t = 0 ∧ k = e
 | .inr (ys, to) => t = to ∧ k = 0 ∧ w'.ownsRow w.heap.size 120 4 u ys.length (aflat ys)
end Go.Proofs.YtjghebcnmoojmaaGreat

namespace Go.Proofs.YtjghebcnmoojmaaGreat
set_option maxRecDepth 100000
open Go.RowKit

def akB (y : Int × Int × Int × Int) : List Int := y.1 :: (lo y.2.1 4 ++ (lo y.2.2.1 2 ++ lo y.2.2.2 2))
def acB (ys : List (Int × Int × Int × Int)) : List Int := [(ys.length : Int)] ++ (ys.map akB).flatten
theorem akB_len (y : Int × Int × Int × Int) : (akB y).length = 9 := by simp [akB, lo_len]
theorem akB_flat_len (ys : List (Int × Int × Int × Int)) : ((ys.map akB).flatten).length = 9 * ys.length := by
 induction ys with
 | nil => rfl
 | cons y ys ih => simp only [List.map_cons, List.flatten_cons, List.length_append, akB_len, ih, List.length_cons]; omega
theorem akB_step (ys : List (Int × Int × Int × Int)) (k : Nat) (h : k < ys.length) : ((ys.take (k + 1)).map akB).flatten = ((ys.take k).map akB).flatten ++ akB (ys.getD k (0, 0, 0, 0)) := by
 rw [List.take_succ_eq_append_getElem h, List.map_append, List.flatten_append]; simp [List.getD, h]
theorem lo_byt7 {v : Int} {n : Nat} : ∀ x ∈ lo v n, 0 ≤ x ∧ x < 256 := fun x hx => by
 obtain ⟨i, _, rfl⟩ := List.mem_map.1 hx
 omega
end Go.Proofs.YtjghebcnmoojmaaGreat
