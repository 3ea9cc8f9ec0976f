/- The contracts of the library at this program. No conditions. sync.Once: the function is called the first time, and then no more. A taker's cells; a map of slices that is made once, in a field beside its Once. The program's Sort of numbers that go round; the keys of a map, collected. No conditions but that the row is of a hundred numbers at most. -/
import Derived.Test.YtfiaghfaijlfjaaGreatRows
import Derived.Test.YtfiaghfaijlfjaaGreatPm
import Derived.Test.YtfiaghfaijlfjaaGreatKm
import Derived.Test.YtfiaghfaijlfjaaGreatZin
import Derived.Test.YtfiaghfaijlfjaaGreatByt
import Derived.Shelf.SlIterI.Nil
import Derived.Ground.GgzProg
import Derived.Shelf.Sort.Plain
import Derived.Ground.Names2Prog
import Derived.Shelf.Slices.CompactI
import Derived.Shelf.Slices.In.SortNone
import Derived.Defers
import Derived.Laws.Pointers
import Derived.Laws.LoneSync
import Derived.RegionTactic
import Derived.Deep.Cut
import Derived.RegionCalls
import Derived.ChangeAlike
import Derived.Maps.Own
import Derived.Maps.OwnOps
import Derived.Maps.OwnSet
import Derived.Lib.OwnBridge
import Derived.Lib.SlicesCompact
import Derived.Sort.Grow
import Derived.Laws.OwnMore
import Derived.Laws.AppendOwnNone
namespace Go.Proofs.YtfiaghfaijlfjaaGreat
open Go.Shelf
def lay189_ren : Go.Shelf.Ren := ⟨fun | 189 => 58 | 125 => 84 | 257 => 83 | 128 => 105 | 129 => 106 | 294 => 96 | 295 => 97 | 296 => 98 | 297 => 99 | 298 => 100 | 299 => 101 | 216 => 102 | 300 => 103 | 301 => 104 | 328 => 118 | 329 => 119 | 330 => 120 | 331 => 121 | 332 => 122 | 215 => 123 | 343 => 135 | n => n, fun | 28 => 40 | 3 => 3 | 46 => 145 | 0 => 0 | 51 => 66 | 53 => 169 | 4 => 4 | 183 => 161 | 182 => 160 | 131 => 165 | 5 => 5 | 9 => 9 | 218 => 176 | 222 => 180 | 228 => 191 | 229 => 192 | n => n, fun | n => n⟩
theorem lay189 : Go.Proofs.Lays.n189 Tryz.prog lay189_ren := {
  mixed := by kernel_rfl
  f125 := Tryz.func84.trans (congrArg some (by kernel_rfl))
  f128 := Tryz.func105.trans (congrArg some (by kernel_rfl))
  f129 := Tryz.func106.trans (congrArg some (by kernel_rfl))
  f189 := Tryz.func58.trans (congrArg some (by kernel_rfl))
  f215 := Tryz.func123.trans (congrArg some (by kernel_rfl))
  f216 := Tryz.func102.trans (congrArg some (by kernel_rfl))
  f257 := Tryz.func83.trans (congrArg some (by kernel_rfl))
  f294 := Tryz.func96.trans (congrArg some (by kernel_rfl))
  f295 := Tryz.func97.trans (congrArg some (by kernel_rfl))
  f296 := Tryz.func98.trans (congrArg some (by kernel_rfl))
  f297 := Tryz.func99.trans (congrArg some (by kernel_rfl))
  f298 := Tryz.func100.trans (congrArg some (by kernel_rfl))
  f299 := Tryz.func101.trans (congrArg some (by kernel_rfl))
  f300 := Tryz.func103.trans (congrArg some (by kernel_rfl))
  f301 := Tryz.func104.trans (congrArg some (by kernel_rfl))
  f328 := Tryz.func118.trans (congrArg some (by kernel_rfl))
  f329 := Tryz.func119.trans (congrArg some (by kernel_rfl))
  f330 := Tryz.func120.trans (congrArg some (by kernel_rfl))
  f331 := Tryz.func121.trans (congrArg some (by kernel_rfl))
  f332 := Tryz.func122.trans (congrArg some (by kernel_rfl))
  f343 := Tryz.func135.trans (congrArg some (by kernel_rfl))
  t0 := Tryz.underlying0
  a0 := Tryz.isAgg0
  z0 := Tryz.sizeOf0
  v0 := Tryz.zeroValue0
  t3 := Tryz.underlying3
  a3 := Tryz.isAgg3
  z3 := Tryz.sizeOf3
  v3 := Tryz.zeroValue3
  t4 := Tryz.underlying4
  a4 := Tryz.isAgg4
  z4 := Tryz.sizeOf4
  v4 := Tryz.zeroValue4
  t5 := Tryz.underlying5
  a5 := Tryz.isAgg5
  z5 := Tryz.sizeOf5
  v5 := Tryz.zeroValue5
  t9 := Tryz.underlying9
  a9 := Tryz.isAgg9
  z9 := Tryz.sizeOf9
  v9 := Tryz.zeroValue9
  t28 := Tryz.underlying40
  a28 := Tryz.isAgg40
  z28 := Tryz.sizeOf40
  v28 := Tryz.zeroValue40
  t46 := Tryz.underlying145
  a46 := Tryz.isAgg145
  z46 := Tryz.sizeOf145
  v46 := Tryz.zeroValue145
  t51 := Tryz.underlying66
  a51 := Tryz.isAgg66
  z51 := Tryz.sizeOf66
  v51 := Tryz.zeroValue66
  t53 := Tryz.underlying169
  a53 := Tryz.isAgg169
  z53 := Tryz.sizeOf169
  v53 := Tryz.zeroValue169
  t131 := Tryz.underlying165
  a131 := Tryz.isAgg165
  z131 := Tryz.sizeOf165
  v131 := Tryz.zeroValue165
  t182 := Tryz.underlying160
  a182 := Tryz.isAgg160
  z182 := Tryz.sizeOf160
  v182 := Tryz.zeroValue160
  t183 := Tryz.underlying161
  a183 := Tryz.isAgg161
  z183 := Tryz.sizeOf161
  v183 := Tryz.zeroValue161
  t218 := Tryz.underlying176
  a218 := Tryz.isAgg176
  z218 := Tryz.sizeOf176
  v218 := Tryz.zeroValue176
  t222 := Tryz.underlying180
  a222 := Tryz.isAgg180
  z222 := Tryz.sizeOf180
  v222 := Tryz.zeroValue180
  t228 := Tryz.underlying191
  a228 := Tryz.isAgg191
  z228 := Tryz.sizeOf191
  v228 := Tryz.zeroValue191
  t229 := Tryz.underlying192
  a229 := Tryz.isAgg192
  z229 := Tryz.sizeOf192
  v229 := Tryz.zeroValue192 }
open Go.Sort Go.RowKit in
theorem lib_Sort_int (blk off cap : Nat) (zs : List Int) (w : World) (hH : Holds (Value.int .i64) w blk off zs.toArray) (hblk : blk < w.heap.size) (hsz : zs.length < 4611686018427387904) :
    Calls Tryz.prog 58 #[.slice (some ⟨blk, off, none⟩) zs.length cap] w fun e w' =>
      e = .returned (.tuple #[]) ∧ ∃ n os, w' = grow (putRow (Value.int .i64) (Sort.ahead w n) blk off (zs.mergeSort fun x y => decide (x ≤ y)).toArray) os := Any.slices_Sort_int lay189 blk off cap zs w hH hblk hsz
def layNm220_ren : Go.Shelf.Ren := ⟨fun | 20 => 59 | n => n, fun | 22 => 40 | 3 => 3 | 4 => 4 | 0 => 0 | n => n, fun | n => n⟩
theorem layNm220 : Go.Proofs.Lays2.n20 Tryz.prog layNm220_ren := {
  mixed := by kernel_rfl
  f20 := Tryz.func59.trans (congrArg some (by kernel_rfl))
  t0 := Tryz.underlying0
  a0 := Tryz.isAgg0
  z0 := Tryz.sizeOf0
  v0 := Tryz.zeroValue0
  t3 := Tryz.underlying3
  a3 := Tryz.isAgg3
  z3 := Tryz.sizeOf3
  v3 := Tryz.zeroValue3
  t4 := Tryz.underlying4
  a4 := Tryz.isAgg4
  z4 := Tryz.sizeOf4
  v4 := Tryz.zeroValue4
  t22 := Tryz.underlying40
  a22 := Tryz.isAgg40
  z22 := Tryz.sizeOf40
  v22 := Tryz.zeroValue40
  i3 := by kernel_rfl }
open Go.RowKit Go.Lib Go.Sort in
theorem lib_Compact_int_arr (blk off cap : Nat) (d : Array Int) (w : World) (hH : Holds encI w blk off d) (hsz : d.size ≤ 9223372036854775807) (hcap : d.size ≤ cap) :
    Calls Tryz.prog 59 #[.slice (some ⟨blk, off, none⟩) d.size cap] w fun e w' => e = .returned (.slice (some ⟨blk, off, none⟩) (compactUpTo d d.size).length cap) ∧ ∃ q, w' = putRow encI (Sort.ahead w q) blk off (compactUpTo d d.size ++ List.replicate (d.size - (compactUpTo d d.size).length) 0).toArray := Any.slices_Compact_int_arr layNm220 blk off cap d w hH hsz hcap
open Go.RowKit Go.Lib Go.Sort in
theorem lib_Compact_int (blk off cap : Nat) (zs : List Int) (w : World) (hH : Holds (Value.int .i64) w blk off zs.toArray) (hsz : zs.length ≤ 9223372036854775807) (hcap : zs.length ≤ cap) :
    Calls Tryz.prog 59 #[.slice (some ⟨blk, off, none⟩) zs.length cap] w fun e w' => e = .returned (.slice (some ⟨blk, off, none⟩) (Lib.compact zs).length cap) ∧ ∃ q, w' = putRow (Value.int .i64) (Sort.ahead w q) blk off (Lib.compact zs ++ List.replicate (zs.length - (Lib.compact zs).length) 0).toArray := Any.slices_Compact_int layNm220 blk off cap zs w hH hsz hcap
open Go.RowKit Go.Lib Go.Sort in
theorem lib_Compact_int_empty (a : Option Addr) (cap : Nat) (w : World) :
    Calls Tryz.prog 59 #[.slice a 0 cap] w fun e w' => e = .returned (.slice a 0 cap) ∧ w' = w := Any.slices_Compact_int_empty layNm220 a cap w
open Go.RowKit Go.Sort in
theorem lib_Sort_int_none (p : Option Addr) (cap : Nat) (w : World) :
    Calls Tryz.prog 58 #[.slice p 0 cap] w fun e w' => e = .returned (.tuple #[]) ∧ w' = w := Any.slices_Sort_int_none lay189 p cap w
def layKeys_ren : Go.Shelf.Ren := ⟨fun | 7 => 35 | 10 => 62 | n => n, fun | 23 => 75 | 26 => 3 | 3 => 29 | 28 => 89 | 0 => 0 | 27 => 88 | 33 => 114 | 4 => 4 | n => n, fun | n => n⟩
theorem layKeys : Go.Proofs.SlLaysZI.n7 Tryz.prog layKeys_ren := {
  mixed := by kernel_rfl
  f7 := ⟨Tryz.f35.name, by decide, Tryz.func35.trans (congrArg some (by kernel_rfl))⟩
  f10 := ⟨Tryz.f62.name, by decide, Tryz.func62.trans (congrArg some (by kernel_rfl))⟩
  t0 := Tryz.underlying0
  a0 := Tryz.isAgg0
  z0 := Tryz.sizeOf0
  v0 := Tryz.zeroValue0
  t4 := Tryz.underlying4
  a4 := Tryz.isAgg4
  z4 := Tryz.sizeOf4
  v4 := Tryz.zeroValue4
  t23 := Tryz.underlying75
  a23 := Tryz.isAgg75
  z23 := Tryz.sizeOf75
  v23 := Tryz.zeroValue75
  t26 := Tryz.underlying3
  a26 := Tryz.isAgg3
  z26 := Tryz.sizeOf3
  v26 := Tryz.zeroValue3
  t27 := Tryz.underlying88
  a27 := Tryz.isAgg88
  z27 := Tryz.sizeOf88
  v27 := Tryz.zeroValue88
  t28 := Tryz.underlying89
  a28 := Tryz.isAgg89
  z28 := Tryz.sizeOf89
  v28 := Tryz.zeroValue89
  t33 := Tryz.underlying114
  a33 := Tryz.isAgg114
  z33 := Tryz.sizeOf114
  v33 := Tryz.zeroValue114 }
def layCol_ren : Go.Shelf.Ren := ⟨fun | 8 => 34 | 11 => 61 | n => n, fun | 26 => 3 | 28 => 89 | 24 => 40 | 0 => 0 | 33 => 114 | 4 => 4 | n => n, fun | n => n⟩
theorem layCol : Go.Proofs.SlLaysZI.n8 Tryz.prog layCol_ren := {
  mixed := by kernel_rfl
  f8 := ⟨Tryz.f34.name, by decide, Tryz.func34.trans (congrArg some (by kernel_rfl))⟩
  f11 := ⟨Tryz.f61.name, by decide, Tryz.func61.trans (congrArg some (by kernel_rfl))⟩
  t0 := Tryz.underlying0
  a0 := Tryz.isAgg0
  z0 := Tryz.sizeOf0
  v0 := Tryz.zeroValue0
  t24 := Tryz.underlying40
  a24 := Tryz.isAgg40
  z24 := Tryz.sizeOf40
  v24 := Tryz.zeroValue40
  t26 := Tryz.underlying3
  a26 := Tryz.isAgg3
  z26 := Tryz.sizeOf3
  v26 := Tryz.zeroValue3
  t28 := Tryz.underlying89
  a28 := Tryz.isAgg89
  z28 := Tryz.sizeOf89
  v28 := Tryz.zeroValue89
  i26 := by kernel_rfl }
end Go.Proofs.YtfiaghfaijlfjaaGreat

namespace Go.Proofs.YtfiaghfaijlfjaaGreat
set_option maxRecDepth 100000

theorem o_disable (w : World) : (callFunc 127 #[]).run Tryz.prog w = .ok (.value (.tuple #[])) w := run_call_mark0 Tryz.func127 (by kernel_rfl) (by kernel_rfl) (by kernel_rfl) .disable (by kernel_rfl) w
theorem o_enable (w : World) : (callFunc 129 #[]).run Tryz.prog w = .ok (.value (.tuple #[])) w := run_call_mark0 Tryz.func129 (by kernel_rfl) (by kernel_rfl) (by kernel_rfl) .enable (by kernel_rfl) w
theorem o_acquire (a : Addr) (w : World) : (callFunc 130 #[.pointer (some a)]).run Tryz.prog w = .ok (.value (.tuple #[])) w := run_call_marked Tryz.func130 (by kernel_rfl) (by kernel_rfl) (by kernel_rfl) .acquire (by kernel_rfl) a w
theorem o_release (a : Addr) (w : World) : (callFunc 132 #[.pointer (some a)]).run Tryz.prog w = .ok (.value (.tuple #[])) w := run_call_marked Tryz.func132 (by kernel_rfl) (by kernel_rfl) (by kernel_rfl) .releaseMerge (by kernel_rfl) a w
theorem o_not (x : Bool) (w : World) : (Op.unary .not (.bool x)).run Tryz.prog w = .ok (.bool (!x)) w := rfl
theorem o_store (a : Addr) (x : Value) (u : FrameMode) (w : World) (hc : w.cell? a = some x) (hz : w.frozen? a = false) :
    CallsD Tryz.prog 92 #[.pointer (some a), .bool true] u w fun e u' w' => u' = u ∧ (e = .returned (.tuple #[]) ∧ w' = w.drew.setCell a (.int .u32 1)) := by
  have hc' : w.drew.cell? a = some x := by go_simp
  have hz' : w.drew.frozen? a = false := by go_simp
  have hst := run_call_store (P := Tryz.prog) Tryz.func113 (by kernel_rfl) (by kernel_rfl) (by kernel_rfl) (by kernel_rfl) (k := .u32) (y := 1) hc' hz'
  go_enter_d Tryz.func92, Tryz.ntmps92
  go_wp2
  go_region_calls
  all_goals (go_end0; exact ⟨rfl, rfl⟩)
theorem o_unlock (a : Addr) (u : FrameMode) (w : World) (hc : w.cell? a = some (.int .i32 1)) (hz : w.frozen? a = false) :
    CallsD Tryz.prog 91 #[.pointer (some a)] u w fun e u' w' => u' = u ∧ (e = .returned (.tuple #[]) ∧ w' = w.setCell a (.int .i32 0)) := by
  have hd := o_disable
  have he := o_enable
  have hr := o_release
  have hadd := run_call_add (P := Tryz.prog) Tryz.func133 (by kernel_rfl) (by kernel_rfl) (by kernel_rfl) .i32 (by kernel_rfl) (y := -1) (s := 0) hc hz (by simp [go_sem]; rfl)
  have hcv := run_convert_to_unsafe (P := Tryz.prog) (src := 183) (dst := 187) Tryz.underlying183 Tryz.underlying187 (by kernel_rfl) hc
  go_enter_d Tryz.func91, Tryz.ntmps91
  go_wp2
  go_end0
  go_wp2
  go_end0
  exact ⟨rfl, rfl⟩
theorem o_lock (a : Addr) (w : World) (hc : w.cell? a = some (.int .i32 0)) (hz : w.frozen? a = false) :
    Calls Tryz.prog 90 #[.pointer (some a)] w fun e w' => e = .returned (.tuple #[]) ∧ w' = w.setCell a (.int .i32 1) := by
  have hd := o_disable
  have he := o_enable
  have ha := o_acquire
  have hcas := run_call_cas_hit (P := Tryz.prog) Tryz.func128 (by kernel_rfl) (by kernel_rfl) (by kernel_rfl) .i32 (by kernel_rfl) (y := 1) hc hz
  have hc' : (w.setCell a (.int .i32 1)).cell? a = some (.int .i32 1) := World.cell?_setCell_same w a _ hc
  have hcv := run_convert_to_unsafe (P := Tryz.prog) (src := 183) (dst := 187) Tryz.underlying183 Tryz.underlying187 (by kernel_rfl) hc'
  go_enter Tryz.func90, Tryz.ntmps90
  go_wp2
  first | go_end0 | (simp only [Exit.inBlock, Exit.then]; refine bodyPost_ret (results_none rfl _ _ _) rfl ?_) | refine bodyPost_ret (results_none rfl _ _ _) rfl ?_
  go_wp2
  go_end0
  exact ⟨rfl, rfl⟩
/-- Done already: the function is not called. -/
theorem once_done (a : Addr) (fv : Value) (w : World) (h0 : w.cell? a = some (.int .u32 1)) :
    Calls Tryz.prog 50 #[.pointer (some a), fv] w fun e w' => e = .returned (.tuple #[]) ∧ w' = w := by
  have hl := run_call_load (P := Tryz.prog) Tryz.func89 (by kernel_rfl) (by kernel_rfl) (by kernel_rfl) .u32 (by kernel_rfl) h0
  have hnot := o_not
  go_enter Tryz.func50, Tryz.ntmps50
  go_wp2
  go_end0
  exact ⟨rfl, rfl⟩
/-- What the function has left, where it has let the Once be. -/
structure OnceMid (w : World) (b off : Nat) : Prop where
  c0 : w.cell? ⟨b, off, none⟩ = some (.int .u32 0)
  c1 : w.cell? ⟨b, off + 1, none⟩ = some (.int .i32 1)
  f0 : w.frozen? ⟨b, off, none⟩ = false
  f1 : w.frozen? ⟨b, off + 1, none⟩ = false
def onceEnd (w : World) (b off : Nat) : World := (w.drew.setCell ⟨b, off, none⟩ (.int .u32 1)).setCell ⟨b, off + 1, none⟩ (.int .i32 0)
set_option maxHeartbeats 1600000 in
theorem once_slow (b off : Nat) (pl : Value) (w : World) (Q : World → Prop)
    (h0 : w.cell? ⟨b, off, none⟩ = some (.int .u32 0)) (h1 : w.cell? ⟨b, off + 1, none⟩ = some (.int .i32 0))
    (f1 : w.frozen? ⟨b, off + 1, none⟩ = false)
    (hf : Calls Tryz.prog 51 #[pl] (w.setCell ⟨b, off + 1, none⟩ (.int .i32 1)) fun e w' => e = .returned (.tuple #[]) ∧ OnceMid w' b off ∧ Q w') :
    Calls Tryz.prog 81 #[.pointer (some ⟨b, off, none⟩), .func (.func 51) #[] #[pl]] w fun e w' => e = .returned (.tuple #[]) ∧ ∃ w2, OnceMid w2 b off ∧ Q w2 ∧ w' = onceEnd w2 b off := by
  have HF := Lib.hid hf
  clear hf
  have C1 := Lib.hid (o_lock ⟨b, off + 1, none⟩ w h1 f1)
  have hl := run_call_load (P := Tryz.prog) Tryz.func89 (by kernel_rfl) (by kernel_rfl) (by kernel_rfl) .u32 (by kernel_rfl) (w := w.setCell ⟨b, off + 1, none⟩ (.int .i32 1)) (a := ⟨b, off, none⟩) (x := 0) ((World.cell?_setCell_other _ ⟨b, off + 1, none⟩ ⟨b, off, none⟩ _ (by simp)).trans h0)
  have hnot := o_not
  go_enter_defers Tryz.func81, Tryz.ntmps81
  go_wp2_with (go_at_call 90; refine C1.out.mono ?_; rintro e w' ⟨rfl, rfl⟩)
  go_wp2_with (first | (go_at_call 51; refine HF.out.mono ?_; rintro e w2 ⟨rfl, hm, hq⟩; have HM := Lib.hid hm; have HQ := Lib.hid hq; clear hm hq) | (go_at_call 80; go_in))
  refine leaves_cons (f := 92) (args := #[.pointer (some ⟨b, off, none⟩), .bool true]) (by simp) (by simp [go_sem]) ?_
  refine (o_store ⟨b, off, none⟩ _ .returning _ HM.out.c0 HM.out.f0).mono ?_
  rintro e u' w'' ⟨rfl, rfl, rfl⟩
  refine leaves_cons (f := 91) (args := #[.pointer (some ⟨b, off + 1, none⟩)]) (by simp [settle]) (by simp [go_sem]) ?_
  refine (o_unlock ⟨b, off + 1, none⟩ _ _ ?_ (by simp [go_sem, HM.out.f1])).mono ?_
  · refine (World.cell?_setCell_other _ ⟨b, off, none⟩ ⟨b, off + 1, none⟩ _ (by simp)).trans ?_
    rw [World.cell?_drew]
    exact HM.out.c1
  rintro e u' w'' ⟨rfl, rfl, rfl⟩
  simp [Leaves, settle, results, Tryz.results81]
  exact ⟨w2, HM.out, HQ.out, rfl⟩
theorem once_first (b off : Nat) (pl : Value) (w : World) (Q : World → Prop)
    (h0 : w.cell? ⟨b, off, none⟩ = some (.int .u32 0)) (h1 : w.cell? ⟨b, off + 1, none⟩ = some (.int .i32 0)) (f1 : w.frozen? ⟨b, off + 1, none⟩ = false)
    (hf : Calls Tryz.prog 51 #[pl] (w.setCell ⟨b, off + 1, none⟩ (.int .i32 1)) fun e w' => e = .returned (.tuple #[]) ∧ OnceMid w' b off ∧ Q w') :
    Calls Tryz.prog 50 #[.pointer (some ⟨b, off, none⟩), .func (.func 51) #[] #[pl]] w fun e w' => e = .returned (.tuple #[]) ∧ ∃ w2, OnceMid w2 b off ∧ Q w2 ∧ w' = onceEnd w2 b off := by
  have C1 := Lib.hid (once_slow b off pl w Q h0 h1 f1 hf)
  have hl := run_call_load (P := Tryz.prog) Tryz.func89 (by kernel_rfl) (by kernel_rfl) (by kernel_rfl) .u32 (by kernel_rfl) h0
  have hnot := o_not
  clear hf
  go_enter Tryz.func50, Tryz.ntmps50
  go_wp2_with (first | (go_at_call 81; refine C1.out.mono ?_; rintro e w' ⟨rfl, hr⟩; have HR := Lib.hid hr; clear hr) | (go_at_call 80; go_in))
  go_end0
  exact ⟨rfl, HR.out⟩
end Go.Proofs.YtfiaghfaijlfjaaGreat

namespace Go.Proofs.YtfiaghfaijlfjaaGreat
set_option maxRecDepth 100000
open Go.RowKit Go.Maps

/-- The taker's own cells at block b: the next number, its Once, the map's block where it has been made. -/
structure WQ (w : World) (b : Nat) (nx : Int) (o : Option Nat) : Prop where
  cN : w.cell? ⟨b, 0, none⟩ = some (.int .i64 nx)
  c0 : w.cell? ⟨b, 1, none⟩ = some (.int .u32 (if o.isSome then 1 else 0))
  c1 : w.cell? ⟨b, 2, none⟩ = some (.int .i32 0)
  c3 : w.cell? ⟨b, 4, none⟩ = some (.map o)
  fz : ∀ j, w.frozen? ⟨b, j, none⟩ = false
theorem WQ.lt {w : World} {b : Nat} {nx : Int} {o : Option Nat} (h : WQ w b nx o) : b < w.heap.size := World.block_lt_of_cell? w _ h.c0
theorem WQ.chg {F : Nat → Prop} {w w' : World} {b : Nat} {nx : Int} {o : Option Nat} (h : WQ w b nx o) (hc : Chg F w w') (hn : ¬ F b) : WQ w' b nx o :=
  ⟨(hc.cell h.lt hn).trans h.cN, (hc.cell h.lt hn).trans h.c0, (hc.cell h.lt hn).trans h.c1, (hc.cell h.lt hn).trans h.c3, fun j => (hc.frozen h.lt hn).trans (h.fz j)⟩
theorem WQ.next {w : World} {b : Nat} {nx : Int} {o : Option Nat} (h : WQ w b nx o) (n : Int) : WQ (w.setCell ⟨b, 0, none⟩ (.int .i64 n)) b n o :=
  ⟨World.cell?_setCell_same _ _ _ h.cN, (World.cell?_setCell_other _ _ _ _ (by simp)).trans h.c0, (World.cell?_setCell_other _ _ _ _ (by simp)).trans h.c1, (World.cell?_setCell_other _ _ _ _ (by simp)).trans h.c3, fun j => by rw [World.frozen?_setCell]; exact h.fz j⟩
/-- How a slice of objects reads as a map's value: by where it lies. -/
def sdat (g n c : Nat) : DataW Unit := .agg [.lit (.int .i64 g), .lit (.int .i64 n), .lit (.int .i64 c)]
def sliceElem (v : Value) : Option (DataW Unit × List MemPlace) :=
  match v with
  | .slice none 0 0 => some (.nil, [])
  | .slice (some ⟨g, 0, none⟩) n c => some (sdat g n c, [])
  | _ => none
theorem sliceElem_inv {v : Value} {g n c : Nat} {ps : List MemPlace} (h : sliceElem v = some (sdat g n c, ps)) : v = .slice (some ⟨g, 0, none⟩) n c := by
  unfold sliceElem at h
  split at h
  · simp [sdat] at h
  · rename_i g' n' c'
    simp only [Option.some.injEq, Prod.mk.injEq, sdat, DataW.agg.injEq, List.cons.injEq, DataW.lit.injEq, Lit.int.injEq, and_true, true_and, Int.natCast_inj] at h
    obtain ⟨⟨rfl, rfl, rfl⟩, -⟩ := h
    rfl
  · cases h
theorem sliceElem_nil {v : Value} {ps : List MemPlace} (h : sliceElem v = some (.nil, ps)) : v = .slice none 0 0 := by
  unfold sliceElem at h
  split at h
  · rfl
  · simp [sdat] at h
  · cases h
/-- A map of the program's own: it reads as D. -/
def MapI (w : World) (bm n : Nat) (D : DataW Unit) : Prop := w.ownsMap Tryz.prog 3 sliceElem bm n D
theorem MapI.chg {F : Nat → Prop} {w w' : World} {bm n : Nat} {D : DataW Unit} (h : MapI w bm n D) (hc : Chg F w w') (hn : ¬ F bm) : MapI w' bm n D := by
  obtain ⟨es, clock, h1, h2⟩ := h
  exact ⟨es, clock, (hc.block bm (Array.getElem?_eq_some_iff.1 h1).1 hn).trans h1, h2⟩
theorem hold_old (b bm : Nat) (nx : Int) (w : World) (h : WQ w b nx (some bm)) : Calls Tryz.prog 25 #[.pointer (some ⟨b, 0, none⟩)] w fun e w' => e = .returned (.map (some bm)) ∧ Below w.heap.size w w' := by
  obtain ⟨w1, hw1⟩ : ∃ w1, w.alloc (.cells #[.pointer (some ⟨b, 0, none⟩)] 24) = w1 := ⟨_, rfl⟩
  have hb1 : Below w.heap.size w w1 := hw1 ▸ (Below.refl _ w).alloc (Nat.le_refl _) _
  have h1 := h.chg (F := fun _ => False) (chg0 hb1) (fun h => h)
  have C1 := Lib.hid (fun fv => once_done ⟨b, 1, none⟩ fv w1 h1.c0)
  have HB := Lib.hid hb1
  have c3 := h1.c3
  have p0 : w1.cell? ⟨w.heap.size, 0, none⟩ = some (.pointer (some ⟨b, 0, none⟩)) := by rw [← hw1]; simp
  have hmf : ∀ (fn : Fn) (first cap : Array Value) (w : World), (Instr.makeFunc fn first cap).run Tryz.prog w = .ok (.func fn first cap) w := fun _ _ _ _ => rfl
  clear h hb1 h1
  go_enter Tryz.func25, Tryz.ntmps25
  go_upto_region 1 with (fail)
  clear hw1
  go_wp2_with (go_at_call 50; refine (C1.out _).mono ?_; rintro e w2 ⟨rfl, rfl⟩)
  go_ret
  exact ⟨rfl, HB.out⟩
theorem cl_any (b g : Nat) (w : World) (hp : w.cell? ⟨g, 0, none⟩ = some (.pointer (some ⟨b, 0, none⟩))) (c3 : w.cell? ⟨b, 4, none⟩ = some (.map none)) (f3 : w.frozen? ⟨b, 4, none⟩ = false) :
    Calls Tryz.prog 51 #[.pointer (some ⟨g, 0, none⟩)] w fun e w' => e = .returned (.tuple #[]) ∧ w' = (w.setCell ⟨b, 4, none⟩ (.map (some w.heap.size))).alloc (.map #[] 0) := by
  have hmm := @run_makeMap Tryz.prog
  have hb : b < w.heap.size := World.block_lt_of_cell? w _ c3
  have hbel : Below w.heap.size w (w.alloc (.map #[] 0)) := (Below.refl _ w).alloc (Nat.le_refl _) _
  have c4 : (w.alloc (.map #[] 0)).cell? ⟨b, 4, none⟩ = some (.map none) := (hbel.cell (p := ⟨b, 4, none⟩) hb).trans c3
  have f4 : (w.alloc (.map #[] 0)).frozen? ⟨b, 4, none⟩ = false := (hbel.frozen (p := ⟨b, 4, none⟩) hb).trans f3
  clear hbel
  go_enter Tryz.func51, Tryz.ntmps51
  go_wp2_with fail
  go_end0
  exact ⟨rfl, rfl⟩
theorem hold_new (b : Nat) (nx : Int) (w : World) (h : WQ w b nx none) : Calls Tryz.prog 25 #[.pointer (some ⟨b, 0, none⟩)] w fun e w' => ∃ bm, e = .returned (.map (some bm)) ∧ WQ w' b nx (some bm) ∧ MapI w' bm 0 (.map []) ∧ w.heap.size ≤ bm ∧ Chg (fun k => k = b) w w' := by
  obtain ⟨w1, hw1⟩ : ∃ w1, w.alloc (.cells #[.pointer (some ⟨b, 0, none⟩)] 24) = w1 := ⟨_, rfl⟩
  have hb1 : Below w.heap.size w w1 := hw1 ▸ (Below.refl _ w).alloc (Nat.le_refl _) _
  have h1 := h.chg (F := fun _ => False) (chg0 hb1) (fun h => h)
  have p0 : w1.cell? ⟨w.heap.size, 0, none⟩ = some (.pointer (some ⟨b, 0, none⟩)) := by rw [← hw1]; simp
  have hs1 : w1.heap.size = w.heap.size + 1 := by rw [← hw1]; simp
  have hbs : b < w.heap.size := h.lt
  -- the world in which the function is called
  obtain ⟨w2, hw2⟩ : ∃ w2, w1.setCell ⟨b, 2, none⟩ (.int .i32 1) = w2 := ⟨_, rfl⟩
  have hg2 : Chg (fun k => k = b) w1 w2 := hw2 ▸ Chg.setCell (F := fun k => k = b) (p := ⟨b, 2, none⟩) (Chg.refl _ w1) (.inl rfl) _
  have hs2 : w2.heap.size = w1.heap.size := by rw [← hw2]; simp [World.setCell]
  have p2 : w2.cell? ⟨w.heap.size, 0, none⟩ = some (.pointer (some ⟨b, 0, none⟩)) := (hg2.cell (by omega) (by omega)).trans p0
  have dN : w2.cell? ⟨b, 0, none⟩ = some (.int .i64 nx) := hw2 ▸ (World.cell?_setCell_other _ _ _ _ (by simp)).trans h1.cN
  have d0 : w2.cell? ⟨b, 1, none⟩ = some (.int .u32 0) := hw2 ▸ (World.cell?_setCell_other _ _ _ _ (by simp)).trans h1.c0
  have d1 : w2.cell? ⟨b, 2, none⟩ = some (.int .i32 1) := hw2 ▸ World.cell?_setCell_same w1 _ _ h1.c1
  have d3 : w2.cell? ⟨b, 4, none⟩ = some (.map none) := hw2 ▸ (World.cell?_setCell_other _ _ _ _ (by simp)).trans h1.c3
  have e2 : ∀ j, w2.frozen? ⟨b, j, none⟩ = false := fun j => by rw [← hw2]; simp [go_sem, h1.fz]
  -- the map, and its block laid into the field
  have hlt2 : b < w2.heap.size := by omega
  obtain ⟨u, hu⟩ : ∃ u, w2.setCell ⟨b, 4, none⟩ (.map (some w2.heap.size)) = u := ⟨_, rfl⟩
  have hus : u.heap.size = w2.heap.size := by rw [← hu]; simp [World.setCell]
  have hgu : Chg (fun k => k = b) w2 u := hu ▸ Chg.setCell (F := fun k => k = b) (p := ⟨b, 4, none⟩) (Chg.refl _ w2) (.inl rfl) _
  have hb3 : Below u.heap.size u (u.alloc (.map #[] 0)) := (Below.refl _ u).alloc (Nat.le_refl _) _
  have hltu : b < u.heap.size := by omega
  obtain ⟨w3, hw3⟩ : ∃ w3, u.alloc (.map #[] 0) = w3 := ⟨_, rfl⟩
  have hg3 : Chg (fun k => k = b) w2 w3 := hw3 ▸ hgu.alloc _
  rw [hw3] at hb3
  have xN : w3.cell? ⟨b, 0, none⟩ = some (.int .i64 nx) := (hb3.cell (p := ⟨b, 0, none⟩) hltu).trans (hu ▸ (World.cell?_setCell_other _ _ _ _ (by simp)).trans dN)
  have x0 : w3.cell? ⟨b, 1, none⟩ = some (.int .u32 0) := (hb3.cell (p := ⟨b, 1, none⟩) hltu).trans (hu ▸ (World.cell?_setCell_other _ _ _ _ (by simp)).trans d0)
  have x1 : w3.cell? ⟨b, 2, none⟩ = some (.int .i32 1) := (hb3.cell (p := ⟨b, 2, none⟩) hltu).trans (hu ▸ (World.cell?_setCell_other _ _ _ _ (by simp)).trans d1)
  have x3 : w3.cell? ⟨b, 4, none⟩ = some (.map (some w2.heap.size)) := (hb3.cell (p := ⟨b, 4, none⟩) hltu).trans (hu ▸ World.cell?_setCell_same _ _ _ d3)
  have xf : ∀ j, w3.frozen? ⟨b, j, none⟩ = false := fun j => by
    refine (hb3.frozen (p := ⟨b, j, none⟩) hltu).trans ?_
    rw [← hu, World.frozen?_setCell]
    exact e2 j
  have hm3 : MapI w3 w2.heap.size 0 (.map []) := by
    have hm : MapI (u.alloc (.map #[] 0)) u.heap.size 0 (.map []) := World.ownsMap_made u _ _ _
    rw [hw3, hus] at hm
    exact hm
  have hcl := cl_any b w.heap.size w2 p2 d3 (e2 4)
  rw [hu, hw3] at hcl
  have C1 := Lib.hid (once_first b 1 (.pointer (some ⟨w.heap.size, 0, none⟩)) w1 (fun w' => w' = w3) h1.c0 h1.c1 (h1.fz 2) (by
    rw [show (1 + 1 : Nat) = 2 from rfl, hw2]
    refine hcl.mono ?_
    rintro e w' ⟨rfl, rfl⟩
    exact ⟨rfl, ⟨x0, x1, xf 1, xf 2⟩, rfl⟩))
  -- behind it
  obtain ⟨w4, hw4⟩ : ∃ w4, onceEnd w3 b 1 = w4 := ⟨_, rfl⟩
  have hg4 : Chg (fun k => k = b) w3 w4 := hw4 ▸ Chg.setCell (F := fun k => k = b) (p := ⟨b, 2, none⟩) (Chg.setCell (F := fun k => k = b) (p := ⟨b, 1, none⟩) ((Chg.refl _ w3).drew) (.inl rfl) _) (.inl rfl) _
  have yN : w4.cell? ⟨b, 0, none⟩ = some (.int .i64 nx) := hw4 ▸ (World.cell?_setCell_other _ _ _ _ (by simp)).trans ((World.cell?_setCell_other _ _ _ _ (by simp)).trans (show w3.drew.cell? ⟨b, 0, none⟩ = some (.int .i64 nx) from xN))
  have y0 : w4.cell? ⟨b, 1, none⟩ = some (.int .u32 1) := hw4 ▸ (World.cell?_setCell_other _ _ _ _ (by simp)).trans (World.cell?_setCell_same w3.drew _ _ x0)
  have y1 : w4.cell? ⟨b, 2, none⟩ = some (.int .i32 0) := hw4 ▸ World.cell?_setCell_same _ _ _ ((World.cell?_setCell_other _ _ _ _ (by simp)).trans (show w3.drew.cell? ⟨b, 2, none⟩ = some (.int .i32 1) from x1))
  have y3 : w4.cell? ⟨b, 4, none⟩ = some (.map (some w2.heap.size)) := hw4 ▸ (World.cell?_setCell_other _ _ _ _ (by simp)).trans ((World.cell?_setCell_other _ _ _ _ (by simp)).trans (show w3.drew.cell? ⟨b, 4, none⟩ = some (.map (some w2.heap.size)) from x3))
  have yf : ∀ j, w4.frozen? ⟨b, j, none⟩ = false := fun j => by rw [← hw4]; simp [onceEnd, go_sem, xf]
  have hq4 : Hid (WQ w4 b nx (some w2.heap.size)) := ⟨yN, y0, y1, y3, yf⟩
  have hm4 : Hid (MapI w4 w2.heap.size 0 (.map [])) := hm3.chg hg4 (by omega)
  have hg : Hid (Chg (fun k => k = b) w w4) := (((chg0 hb1).trans (G := fun k => k = b) hg2 (fun _ _ h => h)).trans hg3 (fun _ _ h => h)).trans hg4 (fun _ _ h => h)
  have p4 : w4.cell? ⟨w.heap.size, 0, none⟩ = some (.pointer (some ⟨b, 0, none⟩)) := (hg4.cell (Nat.lt_of_lt_of_le (by omega) hg3.size) (by omega)).trans ((hg3.cell (by omega) (by omega)).trans p2)
  have HSZ : Hid (w.heap.size ≤ w2.heap.size) := by show _ ≤ _; omega
  have hmf : ∀ (fn : Fn) (first cap : Array Value) (w : World), (Instr.makeFunc fn first cap).run Tryz.prog w = .ok (.func fn first cap) w := fun _ _ _ _ => rfl
  clear h h1 hb1 hs1 hg2 hs2 p2 dN d0 d1 d3 e2 hb3 hg3 xN x0 x1 x3 xf hm3 hcl hg4 yN y0 y1 yf hlt2 hw2 hw3 hu hus hgu hltu
  go_enter Tryz.func25, Tryz.ntmps25
  go_upto_region 1 with (fail)
  clear hw1
  go_wp2_with (go_at_call 50; refine C1.out.mono ?_; rintro e w9 ⟨rfl, w8, -, hw8, hw9⟩; rw [hw8, hw4] at hw9; subst hw9; clear p0 hw4)
  go_ret
  exact ⟨_, rfl, hq4.out, hm4.out, HSZ.out, hg.out⟩
end Go.Proofs.YtfiaghfaijlfjaaGreat

namespace Go.Proofs.YtfiaghfaijlfjaaGreat
set_option maxRecDepth 100000
open Go.RowKit Go.Sort Go.Shelf

theorem infoI3 : (Tryz.prog.info? 3).map (fun i => (i.zero, i.size, i.bytes)) = some (some (.int .i64 0), 1, 8) := by kernel_rfl
theorem underI3 : Tryz.prog.underlying 40 = some (.slice 3) := by kernel_rfl
theorem Zs_of_own {w : World} {base n : Nat} {v : Value} {xs : List Int} (h : w.ownsRow base 3 1 v n (xs.map (Value.int .i64))) (hn : xs.length ≤ 9223372036854775807) : Zs w v xs := by
  have hl : n = xs.length := by simpa using h.1.symm
  refine ⟨hn, ?_⟩
  rcases h.2 with ⟨hnil, he⟩ | ⟨g, cap, cur, hv, hbase, hb, h1, h2, h3, h4⟩
  · have : xs = [] := List.length_eq_zero_iff.1 (by omega)
    subst this
    exact .inl ⟨none, 0, by simpa using hnil, fun _ => rfl, rfl⟩
  · refine .inr ⟨g, 0, cap, by rw [← hl]; exact hv, by omega, fun i hi => ?_⟩
    have e1 : (cur.toList.take (n * 1))[i]? = (xs.map (Value.int .i64))[i]? := by rw [h4]
    rw [List.getElem?_take, if_pos (by omega), Array.getElem?_toList] at e1
    simp only [World.cell?, hb, Nat.zero_add]
    simp only [Option.isSome_none, Bool.false_eq_true, if_false]
    rw [e1]
    simp [List.getD, hi]

theorem newsI_of {w : World} {b off : Nat} {xs : List Int} (hc : ∀ i, i < xs.length → w.cell? ⟨b, off + i, none⟩ = some (.int .i64 (xs.getD i 0))) : ∀ j u, (xs.map (Value.int .i64))[j]? = some u → w.cell? ((⟨b, off, none⟩ : Addr).add j) = some u := by
  intro j u h
  have hj : j < xs.length := by
    rcases Nat.lt_or_ge j xs.length with h' | h'
    · exact h'
    · rw [List.getElem?_eq_none (by simpa using h')] at h; cases h
  have hadd : (⟨b, off, none⟩ : Addr).add j = ⟨b, off + j, none⟩ := by unfold Addr.add; split <;> simp_all
  rw [hadd, hc j hj]
  simp [hj] at h
  simp [List.getD, hj, h]
theorem onesI (xs : List Int) : ∀ u ∈ xs.map (Value.int .i64), u.oneCell' = true := by
  intro u hu
  obtain ⟨x, _, rfl⟩ := List.mem_map.1 hu
  rfl

/-- append of numbers to a row of the call's own. -/
theorem appI_any {ops : Array Oper} {rest : List Oper} {o : Oper} {a : Act} {Q : Exit → Act → World → Prop} {w : World} (hgd : o.guard = none) (s x : Operand)
    (ho : o.op = .call { callee := .builtin .append, args := #[s, x], argTypes := #[40, 40] }) (base : Nat) (xs ys : List Int)
    (hown : w.ownsRow base 3 1 (a.eval s) xs.length (xs.map (Value.int .i64))) (hx : Zs w (a.eval x) ys) (h63 : xs.length + ys.length ≤ 1000) (hbase : base ≤ w.heap.size)
    (h : ∀ v' w', w'.ownsRow base 3 1 v' (xs ++ ys).length ((xs ++ ys).map (Value.int .i64)) → Below base w w' → w.heap.size ≤ w'.heap.size → (v' = .slice none 0 0 → a.eval s = .slice none 0 0) → wpList Tryz.prog ops Q rest (a.put o.dst v') w') : wpList Tryz.prog ops Q (o :: rest) a w := by
  obtain ⟨i0, hi, hz0, hz1, hz2⟩ := info_parts infoI3
  obtain ⟨_, ⟨ad, cap, hv, hz, rfl⟩ | ⟨b, off, cap, hv, hcap, hcs⟩⟩ := hx
  · cases ad with
    | none =>
      obtain rfl : cap = 0 := hz rfl
      refine wpList_append_own_none hgd s x 40 ho base 3 i0 1 underI3 hi _ _ _ rfl hown hv ?_
      rw [List.append_nil] at h
      exact h _ _ hown (Below.refl _ _) (Nat.le_refl _) id
    | some ad =>
      refine wpList_append_own w hgd s x 40 ho base 3 i0 (.int .i64 0) 1 8 underI3 hi hz0 hz1 hz2 rfl (by decide) _ _ _ rfl hown ad 0 cap [] hv (by simp) (by simp) (by simp) (by unfold maxLen; omega) (by omega) hbase fun v' w1 hown1 hgrow hnil => ?_
      exact h v' w1 (by simpa using hown1) ((Below.refl _ w).grown hgrow hbase (fun k hk => (hown.lt k hk).1)) hgrow.size fun hn => (hnil.1 hn).1
  · refine wpList_append_own w hgd s x 40 ho base 3 i0 (.int .i64 0) 1 8 underI3 hi hz0 hz1 hz2 rfl (by decide) _ _ _ rfl hown ⟨b, off, none⟩ ys.length cap (ys.map (Value.int .i64)) hv (by simp) (newsI_of hcs) (onesI ys) (by unfold maxLen; omega) (by omega) hbase fun v' w1 hown1 hgrow hnil => ?_
    refine h v' w1 ?_ ((Below.refl _ w).grown hgrow hbase (fun k hk => (hown.lt k hk).1)) hgrow.size fun hn => (hnil.1 hn).1
    rw [List.length_append, List.map_append]; exact hown1

theorem sorted_unique : ∀ (xs ys : List Int), xs.Pairwise (· < ·) → ys.Pairwise (· < ·) → (∀ x, x ∈ xs ↔ x ∈ ys) → xs = ys := by
  intro xs
  induction xs with
  | nil =>
    intro ys _ _ h
    cases ys with
    | nil => rfl
    | cons y ys => have := (h y).2 (by simp); simp at this
  | cons x xs ih =>
    intro ys hx hy h
    cases ys with
    | nil => have := (h x).1 (by simp); simp at this
    | cons y ys =>
      rw [List.pairwise_cons] at hx hy
      have hxy : x = y := by
        have h1 := (h x).1 (by simp)
        have h2 := (h y).2 (by simp)
        rcases List.mem_cons.1 h1 with h1 | h1
        · exact h1
        · rcases List.mem_cons.1 h2 with h2 | h2
          · exact h2.symm
          · have := hx.1 _ h2; have := hy.1 _ h1; omega
      subst hxy
      rw [ih ys hx.2 hy.2 fun z => ?_]
      constructor
      · intro hz
        rcases List.mem_cons.1 ((h z).1 (List.mem_cons_of_mem _ hz)) with e | e
        · have := hx.1 _ hz; omega
        · exact e
      · intro hz
        rcases List.mem_cons.1 ((h z).2 (List.mem_cons_of_mem _ hz)) with e | e
        · have := hy.1 _ hz; omega
        · exact e

theorem getBang (zs : List Int) (i : Nat) (h : i < zs.length) : zs.toArray[i]! = zs[i] := by simp [h]

theorem compact_lt (zs : List Int) (h : zs.Pairwise (· ≤ ·)) : (Lib.compact zs).Pairwise (· < ·) := by
  unfold Lib.compact Lib.compactUpTo
  rw [List.pairwise_map]
  have hr : (List.range zs.length).Pairwise (· < ·) := List.pairwise_lt_range
  have hf := List.Pairwise.filter (Lib.keeps zs.toArray) hr
  refine List.Pairwise.imp_of_mem ?_ hf
  intro i j hi hj hij
  obtain ⟨hi1, -⟩ := List.mem_filter.1 hi
  obtain ⟨hj1, hj2⟩ := List.mem_filter.1 hj
  have hi' : i < zs.length := List.mem_range.1 hi1
  have hj' : j < zs.length := List.mem_range.1 hj1
  simp only [Lib.keeps, decide_eq_true_eq] at hj2
  have h2 : zs.toArray[j]! ≠ zs.toArray[j - 1]! := by
    rcases hj2 with h | h
    · omega
    · exact h
  rw [getBang _ _ hi', getBang _ _ hj'] at *
  rw [getBang _ _ (by omega)] at h2
  have h3 : zs[j - 1]'(by omega) ≤ zs[j] := List.pairwise_iff_getElem.1 h _ _ (by omega) hj' (by omega)
  have h4 : zs[i] ≤ zs[j - 1]'(by omega) := by
    rcases Nat.lt_or_ge i (j - 1) with h | h
    · exact List.pairwise_iff_getElem.1 ‹_› _ _ hi' (by omega) h
    · have : i = j - 1 := by omega
      subst this; exact Int.le_refl _
  omega

theorem compact_mem (zs : List Int) (x : Int) : x ∈ Lib.compact zs ↔ x ∈ zs := by
  unfold Lib.compact Lib.compactUpTo
  simp only [List.mem_map, List.mem_filter, List.mem_range]
  constructor
  · rintro ⟨i, ⟨hi, -⟩, rfl⟩
    rw [getBang _ _ hi]; exact List.getElem_mem hi
  · intro hx
    obtain ⟨j, hj, rfl⟩ := List.getElem_of_mem hx
    have key : ∀ (j : Nat) (hj : j < zs.length), ∃ i, (i < zs.length ∧ Lib.keeps zs.toArray i = true) ∧ zs.toArray[i]! = zs[j] := by
      intro j
      induction j with
      | zero => intro hj; exact ⟨0, ⟨hj, by simp [Lib.keeps]⟩, getBang _ _ hj⟩
      | succ j ih =>
        intro hj
        by_cases he : zs.toArray[j + 1]! = zs.toArray[j]!
        · obtain ⟨i, h1, h2⟩ := ih (by omega)
          refine ⟨i, h1, ?_⟩
          rw [getBang _ _ hj, getBang _ _ (by omega)] at he
          rw [h2, he]
        · exact ⟨j + 1, ⟨hj, Lib.keeps_pos he⟩, getBang _ _ hj⟩
    exact key j hj

theorem far_left (f a : Int) : (f + far f a) % 65536 = left a := by unfold far left; omega
theorem far_back (f d : Int) (h0 : 0 ≤ d) (h1 : d < 65536) : far f ((f + d) % 65536) = d := by unfold far; omega
theorem far_left' (f a : Int) : far f (left a) = far f a := by unfold far left; omega

/-- What the program's Sort answers. -/
def dists (f : Int) (xs : List Int) : List Int := Lib.compact ((xs.map (far f)).mergeSort fun x y => decide (x ≤ y))
def srt (f : Int) (xs : List Int) : List Int := (dists f xs).map fun d => (f + d) % 65536

theorem merge_sorted (zs : List Int) : (zs.mergeSort fun x y => decide (x ≤ y)).Pairwise (· ≤ ·) := by
  have := List.pairwise_mergeSort (le := fun (x y : Int) => decide (x ≤ y)) (by intro a b c; simp; omega) (by intro a b; simp; omega) zs
  exact this.imp (by intro a b h; simpa using h)
theorem dists_lt (f : Int) (xs : List Int) : (dists f xs).Pairwise (· < ·) := compact_lt _ (merge_sorted _)
theorem dists_mem (f : Int) (xs : List Int) (d : Int) : d ∈ dists f xs ↔ ∃ a ∈ xs, far f a = d := by
  unfold dists
  rw [compact_mem, List.mem_mergeSort, List.mem_map]
theorem dists_bd (f : Int) (xs : List Int) (d : Int) (h : d ∈ dists f xs) : 0 ≤ d ∧ d < 65536 := by
  obtain ⟨a, _, rfl⟩ := (dists_mem f xs d).1 h
  exact far_bd f a
theorem dists_len (f : Int) (xs : List Int) : (dists f xs).length ≤ xs.length := by
  unfold dists
  unfold Lib.compact Lib.compactUpTo
  rw [List.length_map]
  exact Nat.le_trans (List.length_filter_le _ _) (by simp)
theorem srt_len (f : Int) (xs : List Int) : (srt f xs).length ≤ xs.length := by unfold srt; simpa using dists_len f xs
theorem srt_dists (f : Int) (xs : List Int) : (srt f xs).map (far f) = dists f xs := by
  unfold srt
  rw [List.map_map]
  conv => rhs; rw [← List.map_id (dists f xs)]
  apply List.map_congr_left
  intro d hd
  exact far_back f d (dists_bd f xs d hd).1 (dists_bd f xs d hd).2
theorem srt_mem (f : Int) (xs : List Int) (x : Int) : x ∈ srt f xs ↔ ∃ a ∈ xs, left a = x := by
  unfold srt
  rw [List.mem_map]
  constructor
  · rintro ⟨d, hd, rfl⟩
    obtain ⟨a, ha, rfl⟩ := (dists_mem f xs d).1 hd
    exact ⟨a, ha, (far_left f a).symm⟩
  · rintro ⟨a, ha, rfl⟩
    exact ⟨far f a, (dists_mem f xs _).2 ⟨a, ha, rfl⟩, far_left f a⟩

/-- A row of numbers, the nearer one ahead. -/
def Nice (f : Int) (ys : List Int) : Prop := (ys.map (far f)).Pairwise (· < ·) ∧ ∀ y ∈ ys, 0 ≤ y ∧ y < 65536
theorem srt_nice (f : Int) (xs : List Int) : Nice f (srt f xs) := by
  refine ⟨by rw [srt_dists]; exact dists_lt f xs, fun y hy => ?_⟩
  obtain ⟨a, _, rfl⟩ := (srt_mem f xs y).1 hy
  exact left_bd a
theorem nice_srt (f : Int) (xs ys : List Int) (h : Nice f ys) (hm : ∀ x, x ∈ ys ↔ ∃ a ∈ xs, left a = x) : ys = srt f xs := by
  have e : ys.map (far f) = dists f xs := by
    apply sorted_unique _ _ h.1 (dists_lt f xs)
    intro d
    rw [dists_mem, List.mem_map]
    constructor
    · rintro ⟨y, hy, rfl⟩
      obtain ⟨a, ha, rfl⟩ := (hm y).1 hy
      exact ⟨a, ha, (far_left' f a).symm⟩
    · rintro ⟨a, ha, rfl⟩
      exact ⟨left a, (hm _).2 ⟨a, ha, rfl⟩, far_left' f a⟩
  unfold srt
  rw [← e, List.map_map]
  conv => lhs; rw [← List.map_id ys]
  apply List.map_congr_left
  intro y hy
  have := h.2 y hy
  have e2 := far_left f y
  simp only [Function.comp, id]
  rw [e2]; unfold left; omega

/-- Sorted again it is the same. -/
theorem srt_srt (f : Int) (xs : List Int) : srt f (srt f xs) = srt f xs := by
  symm
  apply nice_srt _ _ _ (srt_nice f xs)
  intro x
  constructor
  · intro hx
    refine ⟨x, hx, ?_⟩
    have := (srt_nice f xs).2 x hx
    unfold left; omega
  · rintro ⟨a, ha, rfl⟩
    have := (srt_nice f xs).2 a ha
    have e : left a = a := by unfold left; omega
    rw [e]; exact ha

/-- The reference's Sort: one step of its inner loop, a whole one, all. -/
def stepI (f n : Int) (p : List Int × Bool) (y : Int) : List Int × Bool :=
  let q : List Int × Bool := if !p.2 && decide (far f n ≤ far f y) then (p.1 ++ [n], true) else p
  (if y = n then q.1 else q.1 ++ [y], q.2)
def fin (n : Int) (p : List Int × Bool) : List Int := if p.2 then p.1 else p.1 ++ [n]
def insF (f n : Int) (out : List Int) : List Int := fin n (out.foldl (stepI f n) ([], false))
def rsrt (f : Int) (xs : List Int) : List Int := xs.foldl (fun out a => insF f (left a) out) []

def ins (f n : Int) : List Int → List Int
  | [] => [n]
  | y :: ys => if far f n ≤ far f y then n :: (y :: ys).filter (· != n) else (if y = n then ins f n ys else y :: ins f n ys)
theorem fold_true (f n : Int) (ys m : List Int) : ys.foldl (stepI f n) (m, true) = (m ++ ys.filter (· != n), true) := by
  induction ys generalizing m with
  | nil => simp
  | cons y ys ih =>
    rw [List.foldl_cons]
    have : stepI f n (m, true) y = (if y = n then m else m ++ [y], true) := by simp [stepI]
    rw [this, ih]
    by_cases h : y = n <;> simp [h]
theorem fold_ins (f n : Int) (ys m : List Int) : fin n (ys.foldl (stepI f n) (m, false)) = m ++ ins f n ys := by
  induction ys generalizing m with
  | nil => simp [fin, ins]
  | cons y ys ih =>
    rw [List.foldl_cons]
    by_cases h : far f n ≤ far f y
    · have : stepI f n (m, false) y = (if y = n then m ++ [n] else m ++ [n] ++ [y], true) := by simp [stepI, h]
      rw [this, fold_true]
      by_cases h' : y = n <;> simp [fin, ins, h, h']
    · have : stepI f n (m, false) y = (if y = n then m else m ++ [y], false) := by simp [stepI, h]
      rw [this, ih]
      by_cases h' : y = n
      · subst h'; exact absurd (Int.le_refl _) h
      · simp [ins, h, h']
theorem insF_ins (f n : Int) (ys : List Int) : insF f n ys = ins f n ys := by unfold insF; rw [fold_ins]; simp

theorem far_inj {f x y : Int} (hx : 0 ≤ x ∧ x < 65536) (hy : 0 ≤ y ∧ y < 65536) (h : far f x = far f y) : x = y := by unfold far at h; omega

theorem ins_mem (f n : Int) (ys : List Int) (x : Int) : x ∈ ins f n ys ↔ x = n ∨ x ∈ ys := by
  induction ys with
  | nil => simp [ins]
  | cons y ys ih =>
    unfold ins
    split
    · simp only [List.mem_cons, List.mem_filter, bne_iff_ne]
      constructor
      · rintro (h | ⟨h, _⟩)
        · exact .inl h
        · exact .inr h
      · rintro (h | h)
        · exact .inl h
        · by_cases e : x = n
          · exact .inl e
          · exact .inr ⟨h, e⟩
    · split
      · rename_i e; subst e; rw [ih]; simp
      · rw [List.mem_cons, ih, List.mem_cons]
        constructor
        · rintro (h | h | h)
          · exact .inr (.inl h)
          · exact .inl h
          · exact .inr (.inr h)
        · rintro (h | h | h)
          · exact .inr (.inl h)
          · exact .inl h
          · exact .inr (.inr h)

theorem nice_cons {f y : Int} {ys : List Int} : Nice f (y :: ys) ↔ (0 ≤ y ∧ y < 65536) ∧ (∀ z ∈ ys, far f y < far f z) ∧ Nice f ys := by
  unfold Nice
  rw [List.map_cons, List.pairwise_cons]
  simp only [List.mem_map, List.mem_cons]
  constructor
  · rintro ⟨⟨h1, h2⟩, h3⟩
    exact ⟨h3 y (.inl rfl), fun z hz => h1 _ ⟨z, hz, rfl⟩, h2, fun z hz => h3 z (.inr hz)⟩
  · rintro ⟨h1, h2, h3, h4⟩
    refine ⟨⟨?_, h3⟩, ?_⟩
    · rintro d ⟨z, hz, rfl⟩; exact h2 z hz
    · rintro z (rfl | hz)
      · exact h1
      · exact h4 z hz
theorem nice_filter {f : Int} {ys : List Int} (p : Int → Bool) (h : Nice f ys) : Nice f (ys.filter p) := by
  induction ys with
  | nil => exact h
  | cons y ys ih =>
    obtain ⟨h1, h2, h3⟩ := nice_cons.1 h
    rw [List.filter_cons]
    split
    · exact nice_cons.2 ⟨h1, fun z hz => h2 z (List.mem_filter.1 hz).1, ih h3⟩
    · exact ih h3

theorem ins_nice (f n : Int) (ys : List Int) (hn : 0 ≤ n ∧ n < 65536) (h : Nice f ys) : Nice f (ins f n ys) := by
  induction ys with
  | nil => exact ⟨by simp [ins], by simpa [ins] using hn⟩
  | cons y ys ih =>
    obtain ⟨h1, h2, h3⟩ := nice_cons.1 h
    unfold ins
    split
    · rename_i hle
      refine nice_cons.2 ⟨hn, fun z hz => ?_, nice_filter _ h⟩
      obtain ⟨hz1, hz2⟩ := List.mem_filter.1 hz
      have hzn : z ≠ n := by simpa using hz2
      rcases List.mem_cons.1 hz1 with e | e
      · subst e
        rcases Int.lt_or_eq_of_le hle with h' | h'
        · exact h'
        · exact absurd (far_inj hn h1 h').symm hzn
      · have := h2 z e; omega
    · rename_i hle
      split
      · exact ih h3
      · refine nice_cons.2 ⟨h1, fun z hz => ?_, ih h3⟩
        rcases (ins_mem f n ys z).1 hz with e | e
        · subst e; omega
        · exact h2 z e

theorem rsrt_inv (f : Int) (xs out : List Int) (h : Nice f out) : Nice f (xs.foldl (fun out a => insF f (left a) out) out) ∧ ∀ x, x ∈ xs.foldl (fun out a => insF f (left a) out) out ↔ x ∈ out ∨ ∃ a ∈ xs, left a = x := by
  induction xs generalizing out with
  | nil => exact ⟨h, by simp⟩
  | cons a xs ih =>
    rw [List.foldl_cons, insF_ins]
    obtain ⟨h1, h2⟩ := ih _ (ins_nice f (left a) out (left_bd a) h)
    refine ⟨h1, fun x => ?_⟩
    rw [h2, ins_mem]
    simp only [List.mem_cons]
    constructor
    · rintro ((e | e) | ⟨b, hb, e⟩)
      · exact .inr ⟨a, .inl rfl, e.symm⟩
      · exact .inl e
      · exact .inr ⟨b, .inr hb, e⟩
    · rintro (e | ⟨b, rfl | hb, e⟩)
      · exact .inl (.inr e)
      · exact .inl (.inl e.symm)
      · exact .inr ⟨b, hb, e⟩
theorem rsrt_srt (f : Int) (xs : List Int) : rsrt f xs = srt f xs := by
  obtain ⟨h1, h2⟩ := rsrt_inv f xs [] ⟨by simp, by simp⟩
  exact nice_srt f xs _ h1 fun x => by unfold rsrt; rw [h2]; simp
theorem rsrt_snoc (f : Int) (xs : List Int) (k : Nat) (h : k < xs.length) : rsrt f (xs.take (k + 1)) = insF f (left (xs.getD k 0)) (rsrt f (xs.take k)) := by
  unfold rsrt
  rw [List.take_succ_eq_append_getElem h, List.foldl_append]
  simp [List.getD, h]
theorem rsrt_len (f : Int) (xs : List Int) : (rsrt f xs).length ≤ xs.length := by rw [rsrt_srt]; exact srt_len f xs

theorem rsrt_ok (f : Int) (xs : List Int) : Nice f (rsrt f xs) ∧ ∀ x, x ∈ rsrt f xs ↔ ∃ a ∈ xs, left a = x := by
  obtain ⟨h1, h2⟩ := rsrt_inv f xs [] ⟨by simp, by simp⟩
  exact ⟨h1, fun x => by unfold rsrt; rw [h2]; simp⟩
theorem own_grow {w : World} {os : Array Obj} {base size n : Nat} {e : TypeId} {v : Value} {xs : List Value} (h : w.ownsRow base e size v n xs) : (grow w os).ownsRow base e size v n xs := by
  obtain ⟨h1, h2 | ⟨g, cap, cur, h2, h3, h4, h5⟩⟩ := h
  · exact ⟨h1, .inl h2⟩
  · refine ⟨h1, .inr ⟨g, cap, cur, h2, h3, ?_, h5⟩⟩
    rw [heap_grow_old _ _ (Array.getElem?_eq_some_iff.1 h4).1]; exact h4
theorem below_grow {B : Nat} {w0 w : World} {os : Array Obj} (h : Below B w0 w) (hB : B ≤ w.heap.size) : Below B w0 (grow w os) :=
  ⟨h.os, h.tape, h.output, by have := h.size; simp; omega, fun k hk => by rw [heap_grow_old _ _ (by omega)]; exact h.block k hk⟩

theorem lsort_any (g cap n base : Nat) (zs : List Int) (w : World) (h : w.ownsRow base 3 1 (.slice (some ⟨g, 0, none⟩) n cap) n (zs.map (Value.int .i64))) (h9 : zs.length ≤ 1000) :
    Calls Tryz.prog 58 #[.slice (some ⟨g, 0, none⟩) n cap] w fun e w' => e = .returned (.tuple #[]) ∧ w'.ownsRow base 3 1 (.slice (some ⟨g, 0, none⟩) n cap) n ((zs.mergeSort fun x y => decide (x ≤ y)).map (Value.int .i64)) ∧ Below base w w' := by
  obtain ⟨g', cap', e, hbg, hgl, hncap, hcm, hlen, hH⟩ := Lib.holds_of_ownsRow h (by simp)
  cases e
  subst hlen
  refine (lib_Sort_int g 0 cap zs w hH hgl (by omega)).mono ?_
  rintro e w' ⟨rfl, nn, os, rfl⟩
  have hl : (zs.mergeSort fun x y => decide (x ≤ y)).length = zs.length := List.length_mergeSort zs
  have hc := Lib.ownsRow_putRow (q := nn) (k := zs.length) (ys := zs.mergeSort fun x y => decide (x ≤ y)) h hl (Nat.le_refl _)
  rw [List.take_of_length_le (by omega)] at hc
  refine ⟨rfl, own_grow hc, below_grow (Lib.below_putRow (Below.refl _ _) hbg) ?_⟩
  simp [putRow, mapBlock, Sort.ahead]
  omega

theorem lcompact_any (g cap n base : Nat) (zs : List Int) (w : World) (h : w.ownsRow base 3 1 (.slice (some ⟨g, 0, none⟩) n cap) n (zs.map (Value.int .i64))) (h9 : zs.length ≤ 1000) :
    Calls Tryz.prog 59 #[.slice (some ⟨g, 0, none⟩) n cap] w fun e w' => e = .returned (.slice (some ⟨g, 0, none⟩) (Lib.compact zs).length cap) ∧ w'.ownsRow base 3 1 (.slice (some ⟨g, 0, none⟩) (Lib.compact zs).length cap) (Lib.compact zs).length ((Lib.compact zs).map (Value.int .i64)) ∧ Below base w w' := by
  obtain ⟨g', cap', e, hbg, hgl, hncap, hcm, hlen, hH⟩ := Lib.holds_of_ownsRow h (by simp)
  cases e
  subst hlen
  refine (lib_Compact_int g 0 cap zs w hH (by omega) hncap).mono ?_
  rintro e w' ⟨rfl, q, rfl⟩
  have hle := Lib.compact_length_le zs
  have hc := Lib.ownsRow_putRow (q := q) (k := (Lib.compact zs).length) (ys := Lib.compact zs ++ List.replicate (zs.length - (Lib.compact zs).length) 0) h (by simp; omega) hle
  rw [List.take_left] at hc
  exact ⟨rfl, hc, Lib.below_putRow (Below.refl _ _) hbg⟩

/-- The row while it is being turned back: the first k are. -/
def mix (f : Int) (ds : List Int) (k : Nat) : List Int := (ds.take k).map (fun d => (f + d) % 65536) ++ ds.drop k
theorem mix_len (f : Int) (ds : List Int) (k : Nat) : (mix f ds k).length = ds.length := by simp [mix]; omega
theorem mix_at (f : Int) (ds : List Int) (k : Nat) (h : k < ds.length) : (mix f ds k)[k]? = some (ds.getD k 0) := by
  unfold mix
  rw [List.getElem?_append_right (by simp; omega)]
  simp [List.getD, h, Nat.min_eq_left (Nat.le_of_lt h)]
theorem mix_next (f : Int) (ds : List Int) (k : Nat) (h : k < ds.length) : (mix f ds k).set k ((f + ds.getD k 0) % 65536) = mix f ds (k + 1) := by
  unfold mix
  rw [List.set_append_right _ _ (by simp; omega)]
  have e : k - ((ds.take k).map fun d => (f + d) % 65536).length = 0 := by simp; omega
  have e2 : ds.getD k 0 = ds[k] := by simp [List.getD, h]
  rw [e, e2, List.take_succ_eq_append_getElem h, List.drop_eq_getElem_cons h, List.set_cons_zero, List.map_append, List.append_assoc]
  rfl
theorem mix_all (f : Int) (ds : List Int) : mix f ds ds.length = ds.map (fun d => (f + d) % 65536) := by simp [mix]
theorem map_next (f : Int) (xs : List Int) (k : Nat) (h : k < xs.length) : (xs.take k).map (far f) ++ [far f (xs.getD k 0)] = (xs.take (k + 1)).map (far f) := by
  rw [List.take_succ_eq_append_getElem h, List.map_append]
  simp [List.getD, h]

set_option maxHeartbeats 4000000 in
theorem sort_any (v : Value) (xs : List Int) (f : Int) (w : World) (hv : Zs w v xs) (h9 : xs.length ≤ 100) :
    Calls Tryz.prog 33 #[v, .int .i64 f] w fun e w' => ∃ u, e = .returned u ∧ Zs w' u (srt f xs) ∧ Below w.heap.size w w' := by
  obtain ⟨i0, hi, hz0, hz1, hz2⟩ := info_parts infoI3
  obtain ⟨a, cap, rfl, -, -, hc⟩ := Zs_open hv
  clear hv
  go_enter Tryz.func33, Tryz.ntmps33
  go_wp2_with (refine wpList_make_own _ rfl _ _ 40 rfl w.heap.size 3 i0 (.int .i64 0) 1 underI3 hi hz0 hz1 .i64 .i64 xs.length xs.length rfl rfl rfl (by rw [hz2]; omega) (by unfold maxLen; omega) (Nat.le_refl _) ?_; intro w0 hown0 hgrow0; have O0 := Lib.hid hown0; have B0 := Lib.hid ((Below.refl w.heap.size w).grown hgrow0 (Nat.le_refl _) (by intro k hk; cases hk)); clear hown0 hgrow0)
  go_loopw [5, 15] (fun v i wr => ∃ k : Nat, k ≤ xs.length ∧ i = .int .i64 k ∧ wr.ownsRow w.heap.size 3 1 v ((xs.take k).map (far f)).length (((xs.take k).map (far f)).map (Value.int .i64)) ∧ v ≠ .slice none 0 0 ∧ Below w.heap.size w wr) (fun _ i _ => xs.length - (intOf i).toNat)
  case atStart => exact ⟨0, Nat.zero_le _, rfl, O0.out, by simp, B0.out⟩
  case round =>
    obtain ⟨k, hk, rfl, hown, hnn, hbel⟩ := hrel
    have O1 := Lib.hid hown
    have HB := Lib.hid hbel
    have HN := Lib.hid hnn
    by_cases hlt : k < xs.length
    · obtain ⟨b, off, rfl, hck0⟩ := hc k hlt
      have hck : wr.cell? ⟨b, off + k, none⟩ = some (.int .i64 (xs.getD k 0)) := by rw [hbel.cell (World.block_lt_of_cell? w _ hck0)]; exact hck0
      have HM := Lib.hid (map_next f xs k hlt)
      generalize xs.getD k 0 = c at *
      have hl1 : ((xs.take k).map (far f)).length = k := by simp; omega
      generalize hL : (xs.take k).map (far f) = L at *
      clear hc hck0 hown hbel hnn hL
      go_wp2_with (first
        | (go_at_call 45; refine (far_any f c _).mono ?_; rintro e w1 ⟨rfl, hb⟩; have O2 := Lib.hid (own_below O1.out hb); have HB2 := Lib.hid (HB.out.trans (hb.mono HB.out.size)); clear hb)
        | (at_builtin; refine appI_any rfl (.tmp 19) (.tmp 23) rfl w.heap.size L [far f c] (O2.out.alloc _) (is_lit w1 [far f c] 3 _ 1 rfl rfl (by simp) _ rfl) (by simp; omega) (Nat.le_trans HB2.out.size (by simp)) ?_; intro v2 w2 hown2 hb2 hs2 hn2; have O3 := Lib.hid hown2; have HB3 := Lib.hid ((HB2.out.alloc HB2.out.size _).trans hb2); have HN3 := Lib.hid (fun h => HN.out (hn2 h)); clear hown2 hb2 hs2 hn2))
      go_roundw
      case rel => exact ⟨k + 1, by omega, by go_num, by rw [← HM.out]; exact O3.out, HN3.out, HB3.out⟩
      case measure => simp [intOf]; omega
    · obtain rfl : k = xs.length := by omega
      rw [List.take_length] at O1
      have hl1 : (xs.map (far f)).length = xs.length := by simp
      rw [hl1] at O1
      obtain ⟨g, cap2, rfl, hbg, -, hncap, -, -, -⟩ := Lib.holds_of_ownsRow O1.out hnn
      have hd1 := dists_len f xs
      have hd2 : Lib.compact ((xs.map (far f)).mergeSort fun x y => decide (x ≤ y)) = dists f xs := rfl
      have hd3 := Lib.hid (show srt f xs = (dists f xs).map (fun d => (f + d) % 65536) from rfl)
      have hlm : ((xs.map (far f)).mergeSort fun x y => decide (x ≤ y)).length = xs.length := by simp
      have S1 := Lib.hid (lsort_any g cap2 xs.length w.heap.size (xs.map (far f)) wr O1.out (by simp; omega))
      have S2 := Lib.hid (fun W h => lcompact_any g cap2 xs.length w.heap.size ((xs.map (far f)).mergeSort fun x y => decide (x ≤ y)) W h (by omega))
      generalize (xs.map (far f)).mergeSort (fun x y => decide (x ≤ y)) = M at *
      rw [hd2] at S2
      clear hd2 hlm hl1
      generalize dists f xs = D at *
      clear hc hown hbel hnn
      go_wp2_with (first
        | (go_at_call 58; refine S1.out.mono ?_; rintro e w1 ⟨rfl, hown1, hb1⟩; have O2 := Lib.hid hown1; have HB2 := Lib.hid (HB.out.trans hb1); clear hown1 hb1)
        | (go_at_call 59; refine (S2.out _ O2.out).mono ?_; rintro e w2 ⟨rfl, hown2, hb2⟩; have O3 := Lib.hid hown2; have HB3 := Lib.hid (HB2.out.trans hb2); clear hown2 hb2))
      go_loopw [32] (fun i wq => ∃ k : Nat, k ≤ D.length ∧ i = .int .i64 k ∧ wq.ownsRow w.heap.size 3 1 (.slice (some ⟨g, 0, none⟩) D.length cap2) D.length ((mix f D k).map (Value.int .i64)) ∧ Below w.heap.size w wq) (fun i _ => D.length - (intOf i).toNat)
      case atStart => exact ⟨0, Nat.zero_le _, rfl, O3.out, HB3.out⟩
      case round =>
        obtain ⟨k, hk, rfl, hown4, hb4⟩ := hrel
        have O4 := Lib.hid hown4
        have HB4 := Lib.hid hb4
        by_cases hlt2 : k < D.length
        · have hck : wr.cell? ⟨g, k, none⟩ = some (.int .i64 (D.getD k 0)) := by
            rw [hown4.cellAt k (by omega), List.getElem?_map, mix_at f D k hlt2]; rfl
          have hfr : wr.frozen? ⟨g, k, none⟩ = false := hown4.frozenAt k
          have HM := Lib.hid (mix_next f D k hlt2)
          generalize D.getD k 0 = c at *
          clear hown4 hb4
          go_wp2_with (go_at_call 60; refine (and_any 0 _ [f, c] _ (by omega) (by omega) (is_lit wr [f, c] 3 _ 2 rfl rfl (by simp) _ rfl)).mono ?_; rintro e w5 ⟨rfl, hw⟩; have O5 := Lib.hid (hw ▸ O4.out.alloc (.cells #[.int .i64 f, .int .i64 c] 3)); have HB5 := Lib.hid (hw ▸ HB4.out.alloc HB4.out.size (.cells #[.int .i64 f, .int .i64 c] 3)); have hfr5 : w5.frozen? ⟨g, k, none⟩ = false := O5.out.frozenAt k; have hck5 : ∃ u, w5.cell? ⟨g, k, none⟩ = some u := ⟨_, by rw [O5.out.cellAt k (by omega), List.getElem?_map, List.getElem?_eq_getElem (by rw [mix_len]; omega)]; rfl⟩; obtain ⟨u5, hck5⟩ := hck5; clear hw)
          go_roundw
          case rel =>
            have T := O5.out.stored k (.int .i64 ((f + c) % 65536))
            refine ⟨k + 1, by omega, by go_num, ?_, ?_⟩
            · rw [← HM.out, List.map_set]
              exact T.1
            · exact HB5.out.grown T.2 HB5.out.size (fun j hj => by cases hj; exact hbg)
          case measure => simp [intOf]; omega
        · obtain rfl : k = D.length := by omega
          rw [mix_all] at O4
          clear hown4 hb4
          go_wp2
          go_ret
          exact ⟨_, rfl, by rw [hd3.out]; exact Zs_of_own (base := w.heap.size) (n := D.length) O4.out (by simp; omega), HB4.out⟩

/-- The keys of a map, as they come. -/
theorem pkeys_any (bm : Nat) (w : World) : Calls Tryz.prog 35 #[.map (some bm)] w fun e w' => e = .returned (.func (.func 62) #[] #[.pointer (some ⟨w.heap.size, 0, none⟩)]) ∧ w' = w.alloc (.cells #[.map (some bm)] 75) :=
  (callsIn_wide (n := 6)).1 (AnyZI.keys_in layKeys Fence.wide 6 trivial rfl (some bm) w)
/-- .. collected: each once, in some order. -/
theorem pcollect_any (bm Bm n : Nat) (D : DataW Unit) (w : World) (hm : w.cell? ⟨Bm, 0, none⟩ = some (.map (some bm))) (hown : MapI w bm n D) (hl : Maps.size D ≤ 1000) :
    Calls Tryz.prog 34 #[.func (.func 62) #[] #[.pointer (some ⟨Bm, 0, none⟩)]] w fun e w' => ∃ (v : Value) (ss : List Int), e = .returned v ∧ ss.Perm (intKeys D) ∧ w'.ownsRow w.heap.size 3 1 v ss.length (ss.map (Value.int .i64)) ∧ Below w.heap.size w w' := by
  refine (callsIn_wide (n := 4)).1 ?_
  have hseq : SeqGives Fence.wide 2 Tryz.prog 62 #[.pointer (some ⟨Bm, 0, none⟩)] encZ (fun ss => ss.Perm (intKeys D)) (Maps.size D) w :=
    AnyZI.keys_gives (ρ := layKeys_ren) { layKeys with } Fence.wide _ trivial rfl (by omega) Bm bm n D _ (World.block_lt_of_cell? w _ hm) hm hown
  have cS := AnyZI.collect_in layCol Fence.wide 4 trivial trivial rfl (by omega) 62 #[.pointer (some ⟨Bm, 0, none⟩)] trivial (enters_of Tryz.func62 (by kernel_rfl) rfl) _ _ (by unfold maxLen; omega) (by have := hl; omega) _ hseq
  refine CallsIn.mono cS ?_
  rintro e w' ⟨v, ss, rfl, hS, hrow, hnil, hb⟩
  exact ⟨v, ss, rfl, hS, hrow, hb⟩
end Go.Proofs.YtfiaghfaijlfjaaGreat
