/- Texts Tp0, Psq, Tp1, Tp2 of this proof, in one. No conditions but on lengths. -/
import Derived.Test.YtdigjklhfimnbaaGreatRows
import Derived.Test.YtdigjklhfimnbaaGreatU28
import Derived.Test.YtdigjklhfimnbaaGreatU34
import Derived.ArgAppend
import Derived.Below
import Derived.BigQuiet
import Derived.Calls
import Derived.ChangeAlike
import Derived.ChangeArms
import Derived.ChangeMade
import Derived.ChangeOld
import Derived.Deep.Cut
import Derived.Deep.CutBlock
import Derived.Deep.QuietTactic
import Derived.Deep.RegionHeld
import Derived.Deep.RegionLaw
import Derived.Deep.RegionWith
import Derived.Deep.Slices
import Derived.Defers
import Derived.Ground.GgzProg
import Derived.Ground.Names2Prog
import Derived.Laws.AppendOwnNone
import Derived.Laws.BitsLemmas
import Derived.Laws.BytesArg
import Derived.Laws.LoneSync
import Derived.Laws.OwnMore
import Derived.Laws.Pointers
import Derived.Laws.StructEq
import Derived.Lib.Hide
import Derived.Lib.OwnBridge
import Derived.Lib.QuietBelow
import Derived.Lib.SlicesCompact
import Derived.LoopIn
import Derived.LoopTactic
import Derived.Maps.AppendAt
import Derived.Maps.Own
import Derived.Maps.OwnOps
import Derived.Maps.OwnSet
import Derived.Maps.RangeWalk
import Derived.Maps.Views
import Derived.OpenShut
import Derived.Orders
import Derived.Outline
import Derived.OwnWalkIn
import Derived.ProofKit
import Derived.RangeFuncBox
import Derived.RangeFuncCalls
import Derived.RangeFuncLeaves
import Derived.RangeFuncNested
import Derived.RegionCalls
import Derived.RegionTactic
import Derived.Shelf.RegionOpen
import Derived.Shelf.RegionOpenPlain
import Derived.Shelf.SlIterI.Nil
import Derived.Shelf.Slices.CompactI
import Derived.Shelf.Slices.In.SortNone
import Derived.Shelf.Sort.Plain
import Derived.ShutString
import Derived.Sort.Grow
import Derived.StillTail
import Derived.TacticsInMore
import Derived.WalkKit
import Derived.WalkLawsBesides
import Derived.WalkSpells
import Derived.WideShapes
namespace Go.Proofs.YtdigjklhfimnbaaGreat
set_option maxRecDepth 100000
open Go.RowKit Go.Maps

/-- The taker's own cells at block b: the next number, its Once, the map's block where it has been made. -/
structure WQ (w : World) (b : Nat) (nx : Int) (o : Option Nat) : Prop where
  cN : w.cell? ⟨b, 0, none⟩ = some (.int .i64 nx)
  c0 : w.cell? ⟨b, 1, none⟩ = some (.int .u32 (if o.isSome then 1 else 0))
  c1 : w.cell? ⟨b, 2, none⟩ = some (.int .i32 0)
  c3 : w.cell? ⟨b, 4, none⟩ = some (.map o)
  fz : ∀ j, w.frozen? ⟨b, j, none⟩ = false
theorem WQ.lt {w : World} {b : Nat} {nx : Int} {o : Option Nat} (h : WQ w b nx o) : b < w.heap.size := World.block_lt_of_cell? w _ h.c0
theorem WQ.chg {F : Nat → Prop} {w w' : World} {b : Nat} {nx : Int} {o : Option Nat} (h : WQ w b nx o) (hc : Chg F w w') (hn : ¬ F b) : WQ w' b nx o :=
  ⟨(hc.cell h.lt hn).trans h.cN, (hc.cell h.lt hn).trans h.c0, (hc.cell h.lt hn).trans h.c1, (hc.cell h.lt hn).trans h.c3, fun j => (hc.frozen h.lt hn).trans (h.fz j)⟩
/-- How a slice of objects reads as a map's value: by where it lies. -/
def sdat (g n c : Nat) : DataW Unit := .agg [.lit (.int .i64 g), .lit (.int .i64 n), .lit (.int .i64 c)]
def sliceElem (v : Value) : Option (DataW Unit × List MemPlace) :=
  match v with
  | .slice none 0 0 => some (.nil, [])
  | .slice (some ⟨g, 0, none⟩) n c => some (sdat g n c, [])
  | _ => none
/-- A map of the program's own: it reads as D. -/
def MapI (w : World) (bm n : Nat) (D : DataW Unit) : Prop := w.ownsMap Tryz.prog 3 sliceElem bm n D
theorem MapI.chg {F : Nat → Prop} {w w' : World} {bm n : Nat} {D : DataW Unit} (h : MapI w bm n D) (hc : Chg F w w') (hn : ¬ F bm) : MapI w' bm n D := by
  obtain ⟨es, clock, h1, h2⟩ := h
  exact ⟨es, clock, (hc.block bm (Array.getElem?_eq_some_iff.1 h1).1 hn).trans h1, h2⟩
theorem hold_old (b bm : Nat) (nx : Int) (w : World) (h : WQ w b nx (some bm)) : Calls Tryz.prog 162 #[.pointer (some ⟨b, 0, none⟩)] w fun e w' => e = .returned (.map (some bm)) ∧ Below w.heap.size w w' := by
  obtain ⟨w1, hw1⟩ : ∃ w1, w.alloc (.cells #[.pointer (some ⟨b, 0, none⟩)] 93) = w1 := ⟨_, rfl⟩
  have hb1 : Below w.heap.size w w1 := hw1 ▸ (Below.refl _ w).alloc (Nat.le_refl _) _
  have h1 := h.chg (F := fun _ => False) (chg0 hb1) (fun h => h)
  have C1 := Lib.hid (fun fv => once_done ⟨b, 1, none⟩ fv w1 h1.c0)
  have HB := Lib.hid hb1
  have c3 := h1.c3
  have p0 : w1.cell? ⟨w.heap.size, 0, none⟩ = some (.pointer (some ⟨b, 0, none⟩)) := by rw [← hw1]; simp
  have hmf : ∀ (fn : Fn) (first cap : Array Value) (w : World), (Instr.makeFunc fn first cap).run Tryz.prog w = .ok (.func fn first cap) w := fun _ _ _ _ => rfl
  clear h hb1 h1
  go_enter Tryz.func162, Tryz.ntmps162
  go_upto_region 1 with (fail)
  clear hw1
  go_wp2_with (go_at_call 193; refine (C1.out _).mono ?_; rintro e w2 ⟨rfl, rfl⟩)
  go_ret
  exact ⟨rfl, HB.out⟩
theorem cl_any (b g : Nat) (w : World) (hp : w.cell? ⟨g, 0, none⟩ = some (.pointer (some ⟨b, 0, none⟩))) (c3 : w.cell? ⟨b, 4, none⟩ = some (.map none)) (f3 : w.frozen? ⟨b, 4, none⟩ = false) :
    Calls Tryz.prog 194 #[.pointer (some ⟨g, 0, none⟩)] w fun e w' => e = .returned (.tuple #[]) ∧ w' = (w.setCell ⟨b, 4, none⟩ (.map (some w.heap.size))).alloc (.map #[] 0) := by
  have hmm := @run_makeMap Tryz.prog
  have hb : b < w.heap.size := World.block_lt_of_cell? w _ c3
  have hbel : Below w.heap.size w (w.alloc (.map #[] 0)) := (Below.refl _ w).alloc (Nat.le_refl _) _
  have c4 : (w.alloc (.map #[] 0)).cell? ⟨b, 4, none⟩ = some (.map none) := (hbel.cell (p := ⟨b, 4, none⟩) hb).trans c3
  have f4 : (w.alloc (.map #[] 0)).frozen? ⟨b, 4, none⟩ = false := (hbel.frozen (p := ⟨b, 4, none⟩) hb).trans f3
  clear hbel
  go_enter Tryz.func194, Tryz.ntmps194
  go_wp2_with fail
  go_end0
  exact ⟨rfl, rfl⟩
theorem hold_new (b : Nat) (nx : Int) (w : World) (h : WQ w b nx none) : Calls Tryz.prog 162 #[.pointer (some ⟨b, 0, none⟩)] w fun e w' => ∃ bm, e = .returned (.map (some bm)) ∧ WQ w' b nx (some bm) ∧ MapI w' bm 0 (.map []) ∧ w.heap.size ≤ bm ∧ Chg (fun k => k = b) w w' := by
  obtain ⟨w1, hw1⟩ : ∃ w1, w.alloc (.cells #[.pointer (some ⟨b, 0, none⟩)] 93) = w1 := ⟨_, rfl⟩
  have hb1 : Below w.heap.size w w1 := hw1 ▸ (Below.refl _ w).alloc (Nat.le_refl _) _
  have h1 := h.chg (F := fun _ => False) (chg0 hb1) (fun h => h)
  have p0 : w1.cell? ⟨w.heap.size, 0, none⟩ = some (.pointer (some ⟨b, 0, none⟩)) := by rw [← hw1]; simp
  have hs1 : w1.heap.size = w.heap.size + 1 := by rw [← hw1]; simp
  have hbs : b < w.heap.size := h.lt
  -- the world in which the function is called
  obtain ⟨w2, hw2⟩ : ∃ w2, w1.setCell ⟨b, 2, none⟩ (.int .i32 1) = w2 := ⟨_, rfl⟩
  have hg2 : Chg (fun k => k = b) w1 w2 := hw2 ▸ Chg.setCell (F := fun k => k = b) (p := ⟨b, 2, none⟩) (Chg.refl _ w1) (.inl rfl) _
  have hs2 : w2.heap.size = w1.heap.size := by rw [← hw2]; simp [World.setCell]
  have p2 : w2.cell? ⟨w.heap.size, 0, none⟩ = some (.pointer (some ⟨b, 0, none⟩)) := (hg2.cell (by omega) (by omega)).trans p0
  have dN : w2.cell? ⟨b, 0, none⟩ = some (.int .i64 nx) := hw2 ▸ (World.cell?_setCell_other _ _ _ _ (by simp)).trans h1.cN
  have d0 : w2.cell? ⟨b, 1, none⟩ = some (.int .u32 0) := hw2 ▸ (World.cell?_setCell_other _ _ _ _ (by simp)).trans h1.c0
  have d1 : w2.cell? ⟨b, 2, none⟩ = some (.int .i32 1) := hw2 ▸ World.cell?_setCell_same w1 _ _ h1.c1
  have d3 : w2.cell? ⟨b, 4, none⟩ = some (.map none) := hw2 ▸ (World.cell?_setCell_other _ _ _ _ (by simp)).trans h1.c3
  have e2 : ∀ j, w2.frozen? ⟨b, j, none⟩ = false := fun j => by rw [← hw2]; simp [go_sem, h1.fz]
  -- the map, and its block laid into the field
  have hlt2 : b < w2.heap.size := by omega
  obtain ⟨u, hu⟩ : ∃ u, w2.setCell ⟨b, 4, none⟩ (.map (some w2.heap.size)) = u := ⟨_, rfl⟩
  have hus : u.heap.size = w2.heap.size := by rw [← hu]; simp [World.setCell]
  have hgu : Chg (fun k => k = b) w2 u := hu ▸ Chg.setCell (F := fun k => k = b) (p := ⟨b, 4, none⟩) (Chg.refl _ w2) (.inl rfl) _
  have hb3 : Below u.heap.size u (u.alloc (.map #[] 0)) := (Below.refl _ u).alloc (Nat.le_refl _) _
  have hltu : b < u.heap.size := by omega
  obtain ⟨w3, hw3⟩ : ∃ w3, u.alloc (.map #[] 0) = w3 := ⟨_, rfl⟩
  have hg3 : Chg (fun k => k = b) w2 w3 := hw3 ▸ hgu.alloc _
  rw [hw3] at hb3
  have xN : w3.cell? ⟨b, 0, none⟩ = some (.int .i64 nx) := (hb3.cell (p := ⟨b, 0, none⟩) hltu).trans (hu ▸ (World.cell?_setCell_other _ _ _ _ (by simp)).trans dN)
  have x0 : w3.cell? ⟨b, 1, none⟩ = some (.int .u32 0) := (hb3.cell (p := ⟨b, 1, none⟩) hltu).trans (hu ▸ (World.cell?_setCell_other _ _ _ _ (by simp)).trans d0)
  have x1 : w3.cell? ⟨b, 2, none⟩ = some (.int .i32 1) := (hb3.cell (p := ⟨b, 2, none⟩) hltu).trans (hu ▸ (World.cell?_setCell_other _ _ _ _ (by simp)).trans d1)
  have x3 : w3.cell? ⟨b, 4, none⟩ = some (.map (some w2.heap.size)) := (hb3.cell (p := ⟨b, 4, none⟩) hltu).trans (hu ▸ World.cell?_setCell_same _ _ _ d3)
  have xf : ∀ j, w3.frozen? ⟨b, j, none⟩ = false := fun j => by
    refine (hb3.frozen (p := ⟨b, j, none⟩) hltu).trans ?_
    rw [← hu, World.frozen?_setCell]
    exact e2 j
  have hm3 : MapI w3 w2.heap.size 0 (.map []) := by
    have hm : MapI (u.alloc (.map #[] 0)) u.heap.size 0 (.map []) := World.ownsMap_made u _ _ _
    rw [hw3, hus] at hm
    exact hm
  have hcl := cl_any b w.heap.size w2 p2 d3 (e2 4)
  rw [hu, hw3] at hcl
  have C1 := Lib.hid (once_first b 1 (.pointer (some ⟨w.heap.size, 0, none⟩)) w1 (fun w' => w' = w3) h1.c0 h1.c1 (h1.fz 2) (by
    rw [show (1 + 1 : Nat) = 2 from rfl, hw2]
    refine hcl.mono ?_
    rintro e w' ⟨rfl, rfl⟩
    exact ⟨rfl, ⟨x0, x1, xf 1, xf 2⟩, rfl⟩))
  -- behind it
  obtain ⟨w4, hw4⟩ : ∃ w4, onceEnd w3 b 1 = w4 := ⟨_, rfl⟩
  have hg4 : Chg (fun k => k = b) w3 w4 := hw4 ▸ Chg.setCell (F := fun k => k = b) (p := ⟨b, 2, none⟩) (Chg.setCell (F := fun k => k = b) (p := ⟨b, 1, none⟩) ((Chg.refl _ w3).drew) (.inl rfl) _) (.inl rfl) _
  have yN : w4.cell? ⟨b, 0, none⟩ = some (.int .i64 nx) := hw4 ▸ (World.cell?_setCell_other _ _ _ _ (by simp)).trans ((World.cell?_setCell_other _ _ _ _ (by simp)).trans (show w3.drew.cell? ⟨b, 0, none⟩ = some (.int .i64 nx) from xN))
  have y0 : w4.cell? ⟨b, 1, none⟩ = some (.int .u32 1) := hw4 ▸ (World.cell?_setCell_other _ _ _ _ (by simp)).trans (World.cell?_setCell_same w3.drew _ _ x0)
  have y1 : w4.cell? ⟨b, 2, none⟩ = some (.int .i32 0) := hw4 ▸ World.cell?_setCell_same _ _ _ ((World.cell?_setCell_other _ _ _ _ (by simp)).trans (show w3.drew.cell? ⟨b, 2, none⟩ = some (.int .i32 1) from x1))
  have y3 : w4.cell? ⟨b, 4, none⟩ = some (.map (some w2.heap.size)) := hw4 ▸ (World.cell?_setCell_other _ _ _ _ (by simp)).trans ((World.cell?_setCell_other _ _ _ _ (by simp)).trans (show w3.drew.cell? ⟨b, 4, none⟩ = some (.map (some w2.heap.size)) from x3))
  have yf : ∀ j, w4.frozen? ⟨b, j, none⟩ = false := fun j => by rw [← hw4]; simp [onceEnd, go_sem, xf]
  have hq4 : Hid (WQ w4 b nx (some w2.heap.size)) := ⟨yN, y0, y1, y3, yf⟩
  have hm4 : Hid (MapI w4 w2.heap.size 0 (.map [])) := hm3.chg hg4 (by omega)
  have hg : Hid (Chg (fun k => k = b) w w4) := (((chg0 hb1).trans (G := fun k => k = b) hg2 (fun _ _ h => h)).trans hg3 (fun _ _ h => h)).trans hg4 (fun _ _ h => h)
  have p4 : w4.cell? ⟨w.heap.size, 0, none⟩ = some (.pointer (some ⟨b, 0, none⟩)) := (hg4.cell (Nat.lt_of_lt_of_le (by omega) hg3.size) (by omega)).trans ((hg3.cell (by omega) (by omega)).trans p2)
  have HSZ : Hid (w.heap.size ≤ w2.heap.size) := by show _ ≤ _; omega
  have hmf : ∀ (fn : Fn) (first cap : Array Value) (w : World), (Instr.makeFunc fn first cap).run Tryz.prog w = .ok (.func fn first cap) w := fun _ _ _ _ => rfl
  clear h h1 hb1 hs1 hg2 hs2 p2 dN d0 d1 d3 e2 hb3 hg3 xN x0 x1 x3 xf hm3 hcl hg4 yN y0 y1 yf hlt2 hw2 hw3 hu hus hgu hltu
  go_enter Tryz.func162, Tryz.ntmps162
  go_upto_region 1 with (fail)
  clear hw1
  go_wp2_with (go_at_call 193; refine C1.out.mono ?_; rintro e w9 ⟨rfl, w8, -, hw8, hw9⟩; rw [hw8, hw4] at hw9; subst hw9; clear p0 hw4)
  go_ret
  exact ⟨_, rfl, hq4.out, hm4.out, HSZ.out, hg.out⟩
end Go.Proofs.YtdigjklhfimnbaaGreat
namespace Go.Proofs.YtdigjklhfimnbaaGreat
set_option maxRecDepth 100000
open Go.RowKit Go.Sort Go.Shelf

theorem infoI3 : (Tryz.prog.info? 3).map (fun i => (i.zero, i.size, i.bytes)) = some (some (.int .i64 0), 1, 8) := by kernel_rfl
theorem underI3 : Tryz.prog.underlying 69 = some (.slice 3) := by kernel_rfl
theorem Zs_of_own {w : World} {base n : Nat} {v : Value} {xs : List Int} (h : w.ownsRow base 3 1 v n (xs.map (Value.int .i64))) (hn : xs.length ≤ 9223372036854775807) : Zs w v xs := by
  have hl : n = xs.length := by simpa using h.1.symm
  refine ⟨hn, ?_⟩
  rcases h.2 with ⟨hnil, he⟩ | ⟨g, cap, cur, hv, hbase, hb, h1, h2, h3, h4⟩
  · have : xs = [] := List.length_eq_zero_iff.1 (by omega)
    subst this
    exact .inl ⟨none, 0, by simpa using hnil, fun _ => rfl, rfl⟩
  · refine .inr ⟨g, 0, cap, by rw [← hl]; exact hv, by omega, fun i hi => ?_⟩
    have e1 : (cur.toList.take (n * 1))[i]? = (xs.map (Value.int .i64))[i]? := by rw [h4]
    rw [List.getElem?_take, if_pos (by omega), Array.getElem?_toList] at e1
    simp only [World.cell?, hb, Nat.zero_add]
    simp only [Option.isSome_none, Bool.false_eq_true, if_false]
    rw [e1]
    simp [List.getD, hi]
theorem newsI_of {w : World} {b off : Nat} {xs : List Int} (hc : ∀ i, i < xs.length → w.cell? ⟨b, off + i, none⟩ = some (.int .i64 (xs.getD i 0))) : ∀ j u, (xs.map (Value.int .i64))[j]? = some u → w.cell? ((⟨b, off, none⟩ : Addr).add j) = some u := by
  intro j u h
  have hj : j < xs.length := by
    rcases Nat.lt_or_ge j xs.length with h' | h'
    · exact h'
    · rw [List.getElem?_eq_none (by simpa using h')] at h; cases h
  have hadd : (⟨b, off, none⟩ : Addr).add j = ⟨b, off + j, none⟩ := by unfold Addr.add; split <;> simp_all
  rw [hadd, hc j hj]
  simp [hj] at h
  simp [List.getD, hj, h]
theorem onesI (xs : List Int) : ∀ u ∈ xs.map (Value.int .i64), u.oneCell' = true := by
  intro u hu
  obtain ⟨x, _, rfl⟩ := List.mem_map.1 hu
  rfl
/-- append of numbers to a row of the call's own. -/
theorem appI_any {ops : Array Oper} {rest : List Oper} {o : Oper} {a : Act} {Q : Exit → Act → World → Prop} {w : World} (hgd : o.guard = none) (s x : Operand)
    (ho : o.op = .call { callee := .builtin .append, args := #[s, x], argTypes := #[69, 69] }) (base : Nat) (xs ys : List Int)
    (hown : w.ownsRow base 3 1 (a.eval s) xs.length (xs.map (Value.int .i64))) (hx : Zs w (a.eval x) ys) (h63 : xs.length + ys.length ≤ 1000) (hbase : base ≤ w.heap.size)
    (h : ∀ v' w', w'.ownsRow base 3 1 v' (xs ++ ys).length ((xs ++ ys).map (Value.int .i64)) → Below base w w' → w.heap.size ≤ w'.heap.size → (v' = .slice none 0 0 → a.eval s = .slice none 0 0) → wpList Tryz.prog ops Q rest (a.put o.dst v') w') : wpList Tryz.prog ops Q (o :: rest) a w := by
  obtain ⟨i0, hi, hz0, hz1, hz2⟩ := info_parts infoI3
  obtain ⟨_, ⟨ad, cap, hv, hz, rfl⟩ | ⟨b, off, cap, hv, hcap, hcs⟩⟩ := hx
  · cases ad with
    | none =>
      obtain rfl : cap = 0 := hz rfl
      refine wpList_append_own_none hgd s x 69 ho base 3 i0 1 underI3 hi _ _ _ rfl hown hv ?_
      rw [List.append_nil] at h
      exact h _ _ hown (Below.refl _ _) (Nat.le_refl _) id
    | some ad =>
      refine wpList_append_own w hgd s x 69 ho base 3 i0 (.int .i64 0) 1 8 underI3 hi hz0 hz1 hz2 rfl (by decide) _ _ _ rfl hown ad 0 cap [] hv (by simp) (by simp) (by simp) (by unfold maxLen; omega) (by omega) hbase fun v' w1 hown1 hgrow hnil => ?_
      exact h v' w1 (by simpa using hown1) ((Below.refl _ w).grown hgrow hbase (fun k hk => (hown.lt k hk).1)) hgrow.size fun hn => (hnil.1 hn).1
  · refine wpList_append_own w hgd s x 69 ho base 3 i0 (.int .i64 0) 1 8 underI3 hi hz0 hz1 hz2 rfl (by decide) _ _ _ rfl hown ⟨b, off, none⟩ ys.length cap (ys.map (Value.int .i64)) hv (by simp) (newsI_of hcs) (onesI ys) (by unfold maxLen; omega) (by omega) hbase fun v' w1 hown1 hgrow hnil => ?_
    refine h v' w1 ?_ ((Below.refl _ w).grown hgrow hbase (fun k hk => (hown.lt k hk).1)) hgrow.size fun hn => (hnil.1 hn).1
    rw [List.length_append, List.map_append]; exact hown1
theorem sorted_unique : ∀ (xs ys : List Int), xs.Pairwise (· < ·) → ys.Pairwise (· < ·) → (∀ x, x ∈ xs ↔ x ∈ ys) → xs = ys := by
  intro xs
  induction xs with
  | nil =>
    intro ys _ _ h
    cases ys with
    | nil => rfl
    | cons y ys => have := (h y).2 (by simp); simp at this
  | cons x xs ih =>
    intro ys hx hy h
    cases ys with
    | nil => have := (h x).1 (by simp); simp at this
    | cons y ys =>
      rw [List.pairwise_cons] at hx hy
      have hxy : x = y := by
        have h1 := (h x).1 (by simp)
        have h2 := (h y).2 (by simp)
        rcases List.mem_cons.1 h1 with h1 | h1
        · exact h1
        · rcases List.mem_cons.1 h2 with h2 | h2
          · exact h2.symm
          · have := hx.1 _ h2; have := hy.1 _ h1; omega
      subst hxy
      rw [ih ys hx.2 hy.2 fun z => ?_]
      constructor
      · intro hz
        rcases List.mem_cons.1 ((h z).1 (List.mem_cons_of_mem _ hz)) with e | e
        · have := hx.1 _ hz; omega
        · exact e
      · intro hz
        rcases List.mem_cons.1 ((h z).2 (List.mem_cons_of_mem _ hz)) with e | e
        · have := hy.1 _ hz; omega
        · exact e
theorem getBang (zs : List Int) (i : Nat) (h : i < zs.length) : zs.toArray[i]! = zs[i] := by simp [h]
theorem compact_lt (zs : List Int) (h : zs.Pairwise (· ≤ ·)) : (Lib.compact zs).Pairwise (· < ·) := by
  unfold Lib.compact Lib.compactUpTo
  rw [List.pairwise_map]
  have hr : (List.range zs.length).Pairwise (· < ·) := List.pairwise_lt_range
  have hf := List.Pairwise.filter (Lib.keeps zs.toArray) hr
  refine List.Pairwise.imp_of_mem ?_ hf
  intro i j hi hj hij
  obtain ⟨hi1, -⟩ := List.mem_filter.1 hi
  obtain ⟨hj1, hj2⟩ := List.mem_filter.1 hj
  have hi' : i < zs.length := List.mem_range.1 hi1
  have hj' : j < zs.length := List.mem_range.1 hj1
  simp only [Lib.keeps, decide_eq_true_eq] at hj2
  have h2 : zs.toArray[j]! ≠ zs.toArray[j - 1]! := by
    rcases hj2 with h | h
    · omega
    · exact h
  rw [getBang _ _ hi', getBang _ _ hj'] at *
  rw [getBang _ _ (by omega)] at h2
  have h3 : zs[j - 1]'(by omega) ≤ zs[j] := List.pairwise_iff_getElem.1 h _ _ (by omega) hj' (by omega)
  have h4 : zs[i] ≤ zs[j - 1]'(by omega) := by
    rcases Nat.lt_or_ge i (j - 1) with h | h
    · exact List.pairwise_iff_getElem.1 ‹_› _ _ hi' (by omega) h
    · have : i = j - 1 := by omega
      subst this; exact Int.le_refl _
  omega
theorem compact_mem (zs : List Int) (x : Int) : x ∈ Lib.compact zs ↔ x ∈ zs := by
  unfold Lib.compact Lib.compactUpTo
  simp only [List.mem_map, List.mem_filter, List.mem_range]
  constructor
  · rintro ⟨i, ⟨hi, -⟩, rfl⟩
    rw [getBang _ _ hi]; exact List.getElem_mem hi
  · intro hx
    obtain ⟨j, hj, rfl⟩ := List.getElem_of_mem hx
    have key : ∀ (j : Nat) (hj : j < zs.length), ∃ i, (i < zs.length ∧ Lib.keeps zs.toArray i = true) ∧ zs.toArray[i]! = zs[j] := by
      intro j
      induction j with
      | zero => intro hj; exact ⟨0, ⟨hj, by simp [Lib.keeps]⟩, getBang _ _ hj⟩
      | succ j ih =>
        intro hj
        by_cases he : zs.toArray[j + 1]! = zs.toArray[j]!
        · obtain ⟨i, h1, h2⟩ := ih (by omega)
          refine ⟨i, h1, ?_⟩
          rw [getBang _ _ hj, getBang _ _ (by omega)] at he
          rw [h2, he]
        · exact ⟨j + 1, ⟨hj, Lib.keeps_pos he⟩, getBang _ _ hj⟩
    exact key j hj
theorem far_left (f a : Int) : (f + far f a) % 65536 = left a := by unfold far left; omega
theorem far_back (f d : Int) (h0 : 0 ≤ d) (h1 : d < 65536) : far f ((f + d) % 65536) = d := by unfold far; omega
theorem far_left' (f a : Int) : far f (left a) = far f a := by unfold far left; omega
/-- What the program's Sort answers. -/
def dists (f : Int) (xs : List Int) : List Int := Lib.compact ((xs.map (far f)).mergeSort fun x y => decide (x ≤ y))
def srt (f : Int) (xs : List Int) : List Int := (dists f xs).map fun d => (f + d) % 65536
theorem merge_sorted (zs : List Int) : (zs.mergeSort fun x y => decide (x ≤ y)).Pairwise (· ≤ ·) := by
  have := List.pairwise_mergeSort (le := fun (x y : Int) => decide (x ≤ y)) (by intro a b c; simp; omega) (by intro a b; simp; omega) zs
  exact this.imp (by intro a b h; simpa using h)
theorem dists_lt (f : Int) (xs : List Int) : (dists f xs).Pairwise (· < ·) := compact_lt _ (merge_sorted _)
theorem dists_mem (f : Int) (xs : List Int) (d : Int) : d ∈ dists f xs ↔ ∃ a ∈ xs, far f a = d := by
  unfold dists
  rw [compact_mem, List.mem_mergeSort, List.mem_map]
theorem dists_bd (f : Int) (xs : List Int) (d : Int) (h : d ∈ dists f xs) : 0 ≤ d ∧ d < 65536 := by
  obtain ⟨a, _, rfl⟩ := (dists_mem f xs d).1 h
  exact far_bd f a
theorem dists_len (f : Int) (xs : List Int) : (dists f xs).length ≤ xs.length := by
  unfold dists
  unfold Lib.compact Lib.compactUpTo
  rw [List.length_map]
  exact Nat.le_trans (List.length_filter_le _ _) (by simp)
theorem srt_len (f : Int) (xs : List Int) : (srt f xs).length ≤ xs.length := by unfold srt; simpa using dists_len f xs
theorem srt_dists (f : Int) (xs : List Int) : (srt f xs).map (far f) = dists f xs := by
  unfold srt
  rw [List.map_map]
  conv => rhs; rw [← List.map_id (dists f xs)]
  apply List.map_congr_left
  intro d hd
  exact far_back f d (dists_bd f xs d hd).1 (dists_bd f xs d hd).2
theorem srt_mem (f : Int) (xs : List Int) (x : Int) : x ∈ srt f xs ↔ ∃ a ∈ xs, left a = x := by
  unfold srt
  rw [List.mem_map]
  constructor
  · rintro ⟨d, hd, rfl⟩
    obtain ⟨a, ha, rfl⟩ := (dists_mem f xs d).1 hd
    exact ⟨a, ha, (far_left f a).symm⟩
  · rintro ⟨a, ha, rfl⟩
    exact ⟨far f a, (dists_mem f xs _).2 ⟨a, ha, rfl⟩, far_left f a⟩
/-- A row of numbers, the nearer one ahead. -/
def Nice (f : Int) (ys : List Int) : Prop := (ys.map (far f)).Pairwise (· < ·) ∧ ∀ y ∈ ys, 0 ≤ y ∧ y < 65536
theorem srt_nice (f : Int) (xs : List Int) : Nice f (srt f xs) := by
  refine ⟨by rw [srt_dists]; exact dists_lt f xs, fun y hy => ?_⟩
  obtain ⟨a, _, rfl⟩ := (srt_mem f xs y).1 hy
  exact left_bd a
theorem nice_srt (f : Int) (xs ys : List Int) (h : Nice f ys) (hm : ∀ x, x ∈ ys ↔ ∃ a ∈ xs, left a = x) : ys = srt f xs := by
  have e : ys.map (far f) = dists f xs := by
    apply sorted_unique _ _ h.1 (dists_lt f xs)
    intro d
    rw [dists_mem, List.mem_map]
    constructor
    · rintro ⟨y, hy, rfl⟩
      obtain ⟨a, ha, rfl⟩ := (hm y).1 hy
      exact ⟨a, ha, (far_left' f a).symm⟩
    · rintro ⟨a, ha, rfl⟩
      exact ⟨left a, (hm _).2 ⟨a, ha, rfl⟩, far_left' f a⟩
  unfold srt
  rw [← e, List.map_map]
  conv => lhs; rw [← List.map_id ys]
  apply List.map_congr_left
  intro y hy
  have := h.2 y hy
  have e2 := far_left f y
  simp only [Function.comp, id]
  rw [e2]; unfold left; omega
def fin (n : Int) (p : List Int × Bool) : List Int := if p.2 then p.1 else p.1 ++ [n]
theorem own_grow {w : World} {os : Array Obj} {base size n : Nat} {e : TypeId} {v : Value} {xs : List Value} (h : w.ownsRow base e size v n xs) : (grow w os).ownsRow base e size v n xs := by
  obtain ⟨h1, h2 | ⟨g, cap, cur, h2, h3, h4, h5⟩⟩ := h
  · exact ⟨h1, .inl h2⟩
  · refine ⟨h1, .inr ⟨g, cap, cur, h2, h3, ?_, h5⟩⟩
    rw [heap_grow_old _ _ (Array.getElem?_eq_some_iff.1 h4).1]; exact h4
theorem below_grow {B : Nat} {w0 w : World} {os : Array Obj} (h : Below B w0 w) (hB : B ≤ w.heap.size) : Below B w0 (grow w os) :=
  ⟨h.os, h.tape, h.output, by have := h.size; simp; omega, fun k hk => by rw [heap_grow_old _ _ (by omega)]; exact h.block k hk⟩
theorem lsort_any (g cap n base : Nat) (zs : List Int) (w : World) (h : w.ownsRow base 3 1 (.slice (some ⟨g, 0, none⟩) n cap) n (zs.map (Value.int .i64))) (h9 : zs.length ≤ 1000) :
    Calls Tryz.prog 265 #[.slice (some ⟨g, 0, none⟩) n cap] w fun e w' => e = .returned (.tuple #[]) ∧ w'.ownsRow base 3 1 (.slice (some ⟨g, 0, none⟩) n cap) n ((zs.mergeSort fun x y => decide (x ≤ y)).map (Value.int .i64)) ∧ Below base w w' := by
  obtain ⟨g', cap', e, hbg, hgl, hncap, hcm, hlen, hH⟩ := Lib.holds_of_ownsRow h (by simp)
  cases e
  subst hlen
  refine (lib_Sort_int g 0 cap zs w hH hgl (by omega)).mono ?_
  rintro e w' ⟨rfl, nn, os, rfl⟩
  have hl : (zs.mergeSort fun x y => decide (x ≤ y)).length = zs.length := List.length_mergeSort zs
  have hc := Lib.ownsRow_putRow (q := nn) (k := zs.length) (ys := zs.mergeSort fun x y => decide (x ≤ y)) h hl (Nat.le_refl _)
  rw [List.take_of_length_le (by omega)] at hc
  refine ⟨rfl, own_grow hc, below_grow (Lib.below_putRow (Below.refl _ _) hbg) ?_⟩
  simp [putRow, mapBlock, Sort.ahead]
  omega
theorem lcompact_any (g cap n base : Nat) (zs : List Int) (w : World) (h : w.ownsRow base 3 1 (.slice (some ⟨g, 0, none⟩) n cap) n (zs.map (Value.int .i64))) (h9 : zs.length ≤ 1000) :
    Calls Tryz.prog 266 #[.slice (some ⟨g, 0, none⟩) n cap] w fun e w' => e = .returned (.slice (some ⟨g, 0, none⟩) (Lib.compact zs).length cap) ∧ w'.ownsRow base 3 1 (.slice (some ⟨g, 0, none⟩) (Lib.compact zs).length cap) (Lib.compact zs).length ((Lib.compact zs).map (Value.int .i64)) ∧ Below base w w' := by
  obtain ⟨g', cap', e, hbg, hgl, hncap, hcm, hlen, hH⟩ := Lib.holds_of_ownsRow h (by simp)
  cases e
  subst hlen
  refine (lib_Compact_int g 0 cap zs w hH (by omega) hncap).mono ?_
  rintro e w' ⟨rfl, q, rfl⟩
  have hle := Lib.compact_length_le zs
  have hc := Lib.ownsRow_putRow (q := q) (k := (Lib.compact zs).length) (ys := Lib.compact zs ++ List.replicate (zs.length - (Lib.compact zs).length) 0) h (by simp; omega) hle
  rw [List.take_left] at hc
  exact ⟨rfl, hc, Lib.below_putRow (Below.refl _ _) hbg⟩
/-- The row while it is being turned back: the first k are. -/
def mix (f : Int) (ds : List Int) (k : Nat) : List Int := (ds.take k).map (fun d => (f + d) % 65536) ++ ds.drop k
theorem mix_len (f : Int) (ds : List Int) (k : Nat) : (mix f ds k).length = ds.length := by simp [mix]; omega
theorem mix_at (f : Int) (ds : List Int) (k : Nat) (h : k < ds.length) : (mix f ds k)[k]? = some (ds.getD k 0) := by
  unfold mix
  rw [List.getElem?_append_right (by simp; omega)]
  simp [List.getD, h, Nat.min_eq_left (Nat.le_of_lt h)]
theorem mix_next (f : Int) (ds : List Int) (k : Nat) (h : k < ds.length) : (mix f ds k).set k ((f + ds.getD k 0) % 65536) = mix f ds (k + 1) := by
  unfold mix
  rw [List.set_append_right _ _ (by simp; omega)]
  have e : k - ((ds.take k).map fun d => (f + d) % 65536).length = 0 := by simp; omega
  have e2 : ds.getD k 0 = ds[k] := by simp [List.getD, h]
  rw [e, e2, List.take_succ_eq_append_getElem h, List.drop_eq_getElem_cons h, List.set_cons_zero, List.map_append, List.append_assoc]
  rfl
theorem mix_all (f : Int) (ds : List Int) : mix f ds ds.length = ds.map (fun d => (f + d) % 65536) := by simp [mix]
theorem map_next (f : Int) (xs : List Int) (k : Nat) (h : k < xs.length) : (xs.take k).map (far f) ++ [far f (xs.getD k 0)] = (xs.take (k + 1)).map (far f) := by
  rw [List.take_succ_eq_append_getElem h, List.map_append]
  simp [List.getD, h]
set_option maxHeartbeats 4000000 in
theorem sort_any (v : Value) (xs : List Int) (f : Int) (w : World) (hv : Zs w v xs) (h9 : xs.length ≤ 100) :
    Calls Tryz.prog 239 #[v, .int .i64 f] w fun e w' => ∃ u, e = .returned u ∧ Zs w' u (srt f xs) ∧ Below w.heap.size w w' := by
  obtain ⟨i0, hi, hz0, hz1, hz2⟩ := info_parts infoI3
  obtain ⟨a, cap, rfl, -, -, hc⟩ := Zs_open hv
  clear hv
  go_enter Tryz.func239, Tryz.ntmps239
  go_wp2_with (refine wpList_make_own _ rfl _ _ 69 rfl w.heap.size 3 i0 (.int .i64 0) 1 underI3 hi hz0 hz1 .i64 .i64 xs.length xs.length rfl rfl rfl (by rw [hz2]; omega) (by unfold maxLen; omega) (Nat.le_refl _) ?_; intro w0 hown0 hgrow0; have O0 := Lib.hid hown0; have B0 := Lib.hid ((Below.refl w.heap.size w).grown hgrow0 (Nat.le_refl _) (by intro k hk; cases hk)); clear hown0 hgrow0)
  go_loopw [5, 15] (fun v i wr => ∃ k : Nat, k ≤ xs.length ∧ i = .int .i64 k ∧ wr.ownsRow w.heap.size 3 1 v ((xs.take k).map (far f)).length (((xs.take k).map (far f)).map (Value.int .i64)) ∧ v ≠ .slice none 0 0 ∧ Below w.heap.size w wr) (fun _ i _ => xs.length - (intOf i).toNat)
  case atStart => exact ⟨0, Nat.zero_le _, rfl, O0.out, by simp, B0.out⟩
  case round =>
    obtain ⟨k, hk, rfl, hown, hnn, hbel⟩ := hrel
    have O1 := Lib.hid hown
    have HB := Lib.hid hbel
    have HN := Lib.hid hnn
    by_cases hlt : k < xs.length
    · obtain ⟨b, off, rfl, hck0⟩ := hc k hlt
      have hck : wr.cell? ⟨b, off + k, none⟩ = some (.int .i64 (xs.getD k 0)) := by rw [hbel.cell (World.block_lt_of_cell? w _ hck0)]; exact hck0
      have HM := Lib.hid (map_next f xs k hlt)
      generalize xs.getD k 0 = c at *
      have hl1 : ((xs.take k).map (far f)).length = k := by simp; omega
      generalize hL : (xs.take k).map (far f) = L at *
      clear hc hck0 hown hbel hnn hL
      go_wp2_with (first
        | (go_at_call 125; refine (far_any f c _).mono ?_; rintro e w1 ⟨rfl, hb⟩; have O2 := Lib.hid (own_below O1.out hb); have HB2 := Lib.hid (HB.out.trans (hb.mono HB.out.size)); clear hb)
        | (at_builtin; refine appI_any rfl (.tmp 19) (.tmp 23) rfl w.heap.size L [far f c] (O2.out.alloc _) (is_lit w1 [far f c] 3 _ 1 rfl rfl (by simp) _ rfl) (by simp; omega) (Nat.le_trans HB2.out.size (by simp)) ?_; intro v2 w2 hown2 hb2 hs2 hn2; have O3 := Lib.hid hown2; have HB3 := Lib.hid ((HB2.out.alloc HB2.out.size _).trans hb2); have HN3 := Lib.hid (fun h => HN.out (hn2 h)); clear hown2 hb2 hs2 hn2))
      go_roundw
      case rel => exact ⟨k + 1, by omega, by go_num, by rw [← HM.out]; exact O3.out, HN3.out, HB3.out⟩
      case measure => simp [intOf]; omega
    · obtain rfl : k = xs.length := by omega
      rw [List.take_length] at O1
      have hl1 : (xs.map (far f)).length = xs.length := by simp
      rw [hl1] at O1
      obtain ⟨g, cap2, rfl, hbg, -, hncap, -, -, -⟩ := Lib.holds_of_ownsRow O1.out hnn
      have hd1 := dists_len f xs
      have hd2 : Lib.compact ((xs.map (far f)).mergeSort fun x y => decide (x ≤ y)) = dists f xs := rfl
      have hd3 := Lib.hid (show srt f xs = (dists f xs).map (fun d => (f + d) % 65536) from rfl)
      have hlm : ((xs.map (far f)).mergeSort fun x y => decide (x ≤ y)).length = xs.length := by simp
      have S1 := Lib.hid (lsort_any g cap2 xs.length w.heap.size (xs.map (far f)) wr O1.out (by simp; omega))
      have S2 := Lib.hid (fun W h => lcompact_any g cap2 xs.length w.heap.size ((xs.map (far f)).mergeSort fun x y => decide (x ≤ y)) W h (by omega))
      generalize (xs.map (far f)).mergeSort (fun x y => decide (x ≤ y)) = M at *
      rw [hd2] at S2
      clear hd2 hlm hl1
      generalize dists f xs = D at *
      clear hc hown hbel hnn
      go_wp2_with (first
        | (go_at_call 265; refine S1.out.mono ?_; rintro e w1 ⟨rfl, hown1, hb1⟩; have O2 := Lib.hid hown1; have HB2 := Lib.hid (HB.out.trans hb1); clear hown1 hb1)
        | (go_at_call 266; refine (S2.out _ O2.out).mono ?_; rintro e w2 ⟨rfl, hown2, hb2⟩; have O3 := Lib.hid hown2; have HB3 := Lib.hid (HB2.out.trans hb2); clear hown2 hb2))
      go_loopw [32] (fun i wq => ∃ k : Nat, k ≤ D.length ∧ i = .int .i64 k ∧ wq.ownsRow w.heap.size 3 1 (.slice (some ⟨g, 0, none⟩) D.length cap2) D.length ((mix f D k).map (Value.int .i64)) ∧ Below w.heap.size w wq) (fun i _ => D.length - (intOf i).toNat)
      case atStart => exact ⟨0, Nat.zero_le _, rfl, O3.out, HB3.out⟩
      case round =>
        obtain ⟨k, hk, rfl, hown4, hb4⟩ := hrel
        have O4 := Lib.hid hown4
        have HB4 := Lib.hid hb4
        by_cases hlt2 : k < D.length
        · have hck : wr.cell? ⟨g, k, none⟩ = some (.int .i64 (D.getD k 0)) := by
            rw [hown4.cellAt k (by omega), List.getElem?_map, mix_at f D k hlt2]; rfl
          have hfr : wr.frozen? ⟨g, k, none⟩ = false := hown4.frozenAt k
          have HM := Lib.hid (mix_next f D k hlt2)
          generalize D.getD k 0 = c at *
          clear hown4 hb4
          go_wp2_with (go_at_call 173; refine (and_any 0 _ [f, c] _ (by omega) (by omega) (is_lit wr [f, c] 3 _ 2 rfl rfl (by simp) _ rfl)).mono ?_; rintro e w5 ⟨rfl, hw⟩; have O5 := Lib.hid (hw ▸ O4.out.alloc (.cells #[.int .i64 f, .int .i64 c] 3)); have HB5 := Lib.hid (hw ▸ HB4.out.alloc HB4.out.size (.cells #[.int .i64 f, .int .i64 c] 3)); have hfr5 : w5.frozen? ⟨g, k, none⟩ = false := O5.out.frozenAt k; have hck5 : ∃ u, w5.cell? ⟨g, k, none⟩ = some u := ⟨_, by rw [O5.out.cellAt k (by omega), List.getElem?_map, List.getElem?_eq_getElem (by rw [mix_len]; omega)]; rfl⟩; obtain ⟨u5, hck5⟩ := hck5; clear hw)
          go_roundw
          case rel =>
            have T := O5.out.stored k (.int .i64 ((f + c) % 65536))
            refine ⟨k + 1, by omega, by go_num, ?_, ?_⟩
            · rw [← HM.out, List.map_set]
              exact T.1
            · exact HB5.out.grown T.2 HB5.out.size (fun j hj => by cases hj; exact hbg)
          case measure => simp [intOf]; omega
        · obtain rfl : k = D.length := by omega
          rw [mix_all] at O4
          clear hown4 hb4
          go_wp2
          go_ret
          exact ⟨_, rfl, by rw [hd3.out]; exact Zs_of_own (base := w.heap.size) (n := D.length) O4.out (by simp; omega), HB4.out⟩
/-- The keys of a map, as they come. -/
theorem pkeys_any (bm : Nat) (w : World) : Calls Tryz.prog 241 #[.map (some bm)] w fun e w' => e = .returned (.func (.func 268) #[] #[.pointer (some ⟨w.heap.size, 0, none⟩)]) ∧ w' = w.alloc (.cells #[.map (some bm)] 162) :=
  (callsIn_wide (n := 6)).1 (AnyZI.keys_in layKeys Fence.wide 6 trivial rfl (some bm) w)
/-- .. collected: each once, in some order. -/
theorem pcollect_any (bm Bm n : Nat) (D : DataW Unit) (w : World) (hm : w.cell? ⟨Bm, 0, none⟩ = some (.map (some bm))) (hown : MapI w bm n D) (hl : Maps.size D ≤ 1000) :
    Calls Tryz.prog 240 #[.func (.func 268) #[] #[.pointer (some ⟨Bm, 0, none⟩)]] w fun e w' => ∃ (v : Value) (ss : List Int), e = .returned v ∧ ss.Perm (intKeys D) ∧ w'.ownsRow w.heap.size 3 1 v ss.length (ss.map (Value.int .i64)) ∧ Below w.heap.size w w' := by
  refine (callsIn_wide (n := 4)).1 ?_
  have hseq : SeqGives Fence.wide 2 Tryz.prog 268 #[.pointer (some ⟨Bm, 0, none⟩)] encZ (fun ss => ss.Perm (intKeys D)) (Maps.size D) w :=
    AnyZI.keys_gives (ρ := layKeys_ren) { layKeys with } Fence.wide _ trivial rfl (by omega) Bm bm n D _ (World.block_lt_of_cell? w _ hm) hm hown
  have cS := AnyZI.collect_in layCol Fence.wide 4 trivial trivial rfl (by omega) 268 #[.pointer (some ⟨Bm, 0, none⟩)] trivial (enters_of Tryz.func268 (by kernel_rfl) rfl) _ _ (by unfold maxLen; omega) (by have := hl; omega) _ hseq
  refine CallsIn.mono cS ?_
  rintro e w' ⟨v, ss, rfl, hS, hrow, hnil, hb⟩
  exact ⟨v, ss, rfl, hS, hrow, hb⟩
end Go.Proofs.YtdigjklhfimnbaaGreat
namespace Go.Proofs.YtdigjklhfimnbaaGreat
set_option maxRecDepth 100000
set_option linter.unusedVariables false
open Go.RowKit

open Go.Maps

/-- A map of slices that holds just the batches of H, the objects of each in a block of F of its own. -/
structure Mtk (w : World) (F : Nat → Prop) (b bm : Nat) (D : DataW Unit) (H : List Bt) : Prop where
  has : ∀ k : Int, Maps.has D (.int .i64 k) = (findH H k).isSome
  at_ : ∀ h ∈ H, ∃ g c, (∀ z, D.atKey (.int .i64 h.1) z = sdat g h.2.length c) ∧ Os w (.slice (some ⟨g, 0, none⟩) h.2.length c) h.2 ∧ F g ∧ g ≠ b ∧ g ≠ bm
  size : Maps.size D = H.length
  tidy : Tidy D
theorem mtk_nil (w : World) (F : Nat → Prop) (b bm : Nat) : Mtk w F b bm (.map []) [] := ⟨fun _ => rfl, (fun _ hy => nomatch hy), rfl, tidy_empty⟩
theorem keyLit (k : Int) : WideAt.IsKeyLit (.int .i64 k) := by first | trivial | simp [WideAt.IsKeyLit] | exact rfl
theorem lit_ne {a b : Int} (h : a ≠ b) : (Lit.int .i64 a) ≠ .int .i64 b := fun e => h (by cases e; rfl)
theorem Mtk.put {w : World} {F : Nat → Prop} {b bm : Nat} {D : DataW Unit} {H : List Bt} (h : Mtk w F b bm D H) {n : Int} {ys : List Ob} (hn : findH H n = none) {g c : Nat} (ho : Os w (.slice (some ⟨g, 0, none⟩) ys.length c) ys) (hF : F g) (hb : g ≠ b) (hm : g ≠ bm) : Mtk w F b bm (D.put (.int .i64 n) (sdat g ys.length c)) (H ++ [(n, ys)]) := by
  refine ⟨fun k => ?_, fun y hy => ?_, ?_, h.tidy.put (keyLit n) _⟩
  · by_cases hk : k = n
    · subst hk
      rw [has_put_same h.tidy.isMap (keyLit k)]
      unfold findH at hn ⊢
      rw [List.find?_append, hn]
      simp
    · rw [has_put_other (lit_ne hk), h.has]
      unfold findH
      rw [List.find?_append]
      have : ([(n, ys)] : List Bt).find? (fun h => h.1 == k) = none := by
        rw [List.find?_cons_of_neg (by simpa using fun e => hk e.symm)]
        rfl
      rw [this, Option.or_none]
  · rcases List.mem_append.1 hy with hy | hy
    · obtain ⟨g', c', k1, k2⟩ := h.at_ y hy
      exact ⟨g', c', fun z => by rw [atKey_put_other (lit_ne (findH_none hn y hy))]; exact k1 z, k2⟩
    · rw [List.mem_singleton.1 hy]
      exact ⟨g, c, fun z => atKey_put_same h.tidy.isMap (keyLit n) _ z, ho, hF, hb, hm⟩
  · rw [size_put h.tidy, h.has, h.size, hn, List.length_append]
    rfl
theorem findH_drop (H : List Bt) (n k : Int) : findH (dropH H n) k = if k = n then none else findH H k := by
  unfold findH dropH
  induction H with
  | nil => split <;> rfl
  | cons a H ih =>
    by_cases ha : a.1 = n
    · rw [List.filter_cons_of_neg (by simp [ha]), ih]
      by_cases hk : k = n
      · rw [if_pos hk, if_pos hk]
      · rw [if_neg hk, if_neg hk, List.find?_cons_of_neg (by simp [ha]; exact fun e => hk e.symm)]
    · rw [List.filter_cons_of_pos (by simpa using ha)]
      by_cases hak : a.1 = k
      · rw [List.find?_cons_of_pos (by simpa using hak), List.find?_cons_of_pos (by simpa using hak), if_neg (fun e => ha (hak.trans e))]
      · rw [List.find?_cons_of_neg (by simpa using hak), List.find?_cons_of_neg (by simpa using hak), ih]
theorem Mtk.del {w : World} {F : Nat → Prop} {b bm : Nat} {D : DataW Unit} {H : List Bt} (h : Mtk w F b bm D H) {n : Int} {x : Bt} (hx : findH H n = some x) (nd : (nums H).Nodup) : Mtk w F b bm (D.del (.int .i64 n)) (dropH H n) := by
  refine ⟨fun k => ?_, fun y hy => ?_, ?_, h.tidy.del _⟩
  · rw [findH_drop]
    by_cases hk : k = n
    · subst hk
      rw [has_del_same, if_pos rfl]
      rfl
    · rw [has_del_other (lit_ne hk), h.has, if_neg hk]
  · obtain ⟨h1, h2⟩ := mem_dropH.1 hy
    obtain ⟨g', c', k1, k2⟩ := h.at_ y h1
    exact ⟨g', c', fun z => by rw [atKey_del_other (lit_ne h2)]; exact k1 z, k2⟩
  · have h2 := size_del (k := .int .i64 n) h.tidy
    rw [h.has, h.size, hx] at h2
    have h1 := dropH_len hx nd
    simp only [Option.isSome_some, if_true] at h2
    omega
theorem Mtk.chg {w w' : World} {F G : Nat → Prop} {b bm : Nat} {D : DataW Unit} {H : List Bt} (h : Mtk w F b bm D H) (hc : Chg G w w') (hG : ∀ k, F k → k ≠ b → k ≠ bm → ¬ G k) : Mtk w' F b bm D H :=
  ⟨h.has, fun y hy => by
    obtain ⟨g, c, k1, k2, k3, k4, k5⟩ := h.at_ y hy
    exact ⟨g, c, k1, k2.chg hc (fun a n c' e _ => by cases e; exact hG g k3 k4 k5), k3, k4, k5⟩, h.size, h.tidy⟩
theorem Mtk.mono {w : World} {F F' : Nat → Prop} {b bm : Nat} {D : DataW Unit} {H : List Bt} (h : Mtk w F b bm D H) (hF : ∀ k, F k → F' k) : Mtk w F' b bm D H :=
  ⟨h.has, fun y hy => by
    obtain ⟨g, c, k1, k2, k3, k4⟩ := h.at_ y hy
    exact ⟨g, c, k1, k2, hF g k3, k4⟩, h.size, h.tidy⟩
theorem MapI.tight {w : World} {bm n : Nat} {D : DataW Unit} (h : MapI w bm n D) : MapI w bm (Maps.size D) D := by
  obtain ⟨es, clock, h1, h2, _, h4⟩ := h
  refine ⟨es, clock, h1, h2, ?_, h4⟩
  rw [h4, Maps.size_eq, length_sorted]
  simp
theorem MapI.lt {w : World} {bm n : Nat} {D : DataW Unit} (h : MapI w bm n D) : bm < w.heap.size := World.ownsMap.lt h
/-- The program's taker, its map made at block bm: at block b, in the blocks of F. -/
structure PTm (w : World) (F : Nat → Prop) (b bm : Nat) (t : Tk) : Prop where
  q : WQ w b t.nx (some bm)
  fb : F b
  fm : F bm
  ne : bm ≠ b
  lt : ∀ k, F k → k < w.heap.size
  m : ∃ D, MapI w bm (Maps.size D) D ∧ Mtk w F b bm D t.H
/-- .. whether it was made or not. -/
def PT0 (w : World) (F : Nat → Prop) (b : Nat) (t : Tk) : Prop := (∃ bm, PTm w F b bm t) ∨ (WQ w b t.nx none ∧ F b ∧ (∀ k, F k → k < w.heap.size) ∧ t.H = [])
def PT (w : World) (F : Nat → Prop) (b : Nat) (t : Tk) : Prop := TkOk t ∧ PT0 w F b t
section
variable {w w' : World} {F F' G : Nat → Prop} {b bm : Nat} {t : Tk}
theorem PTm.keep (h : PTm w F b bm t) (hc : Chg G w w') (hG : ∀ k, F k → ¬ G k) : PTm w' F b bm t := by
  obtain ⟨D, h1, h2⟩ := h.m
  exact ⟨h.q.chg hc (hG b h.fb), h.fb, h.fm, h.ne, fun k hk => Nat.lt_of_lt_of_le (h.lt k hk) hc.size, D, h1.chg hc (hG bm h.fm), h2.chg hc (fun k hk _ _ => hG k hk)⟩
theorem PTm.below (h : PTm w F b bm t) (hb : Below w.heap.size w w') : PTm w' F b bm t := h.keep (G := fun _ => False) (chg0 hb) (fun _ _ g => g)
theorem PTm.mono (h : PTm w F b bm t) (hF : ∀ k, F k → F' k) (hl : ∀ k, F' k → k < w.heap.size) : PTm w F' b bm t := by
  obtain ⟨D, h1, h2⟩ := h.m
  exact ⟨h.q, hF b h.fb, hF bm h.fm, h.ne, hl, D, h1, h2.mono hF⟩
theorem PT0.lt (h : PT0 w F b t) : ∀ k, F k → k < w.heap.size := h.elim (fun ⟨_, h⟩ => h.lt) (fun h => h.2.2.1)
theorem PT0.fb (h : PT0 w F b t) : F b := h.elim (fun ⟨_, h⟩ => h.fb) (fun h => h.2.1)
theorem PT0.cN (h : PT0 w F b t) : w.cell? ⟨b, 0, none⟩ = some (.int .i64 t.nx) := h.elim (fun ⟨_, h⟩ => h.q.cN) (fun h => h.1.cN)
theorem PT0.keep (h : PT0 w F b t) (hc : Chg G w w') (hG : ∀ k, F k → ¬ G k) : PT0 w' F b t := by
  rcases h with ⟨bm, h⟩ | ⟨h1, h2, h3, h4⟩
  · exact .inl ⟨bm, h.keep hc hG⟩
  · exact .inr ⟨h1.chg hc (hG b h2), h2, fun k hk => Nat.lt_of_lt_of_le (h3 k hk) hc.size, h4⟩
theorem PT0.below (h : PT0 w F b t) (hb : Below w.heap.size w w') : PT0 w' F b t := h.keep (G := fun _ => False) (chg0 hb) (fun _ _ g => g)
theorem PT.keep (h : PT w F b t) (hc : Chg G w w') (hG : ∀ k, F k → ¬ G k) : PT w' F b t := ⟨h.1, h.2.keep hc hG⟩
theorem PT.below (h : PT w F b t) (hb : Below w.heap.size w w') : PT w' F b t := ⟨h.1, h.2.below hb⟩
theorem PT.drew (h : PT w F b t) : PT w.drew F b t := h.keep (G := fun _ => False) ((Chg.refl _ w).drew) (fun _ _ g => g)
theorem PTm.drew (h : PTm w F b bm t) : PTm w.drew F b bm t := h.keep (G := fun _ => False) ((Chg.refl _ w).drew) (fun _ _ g => g)
/-- The map, that is there already. -/
theorem hold_m (h : PTm w F b bm t) : Calls Tryz.prog 162 #[.pointer (some ⟨b, 0, none⟩)] w fun e w' => e = .returned (.map (some bm)) ∧ Below w.heap.size w w' := hold_old b bm t.nx w h.q
/-- The map, made if it was not. -/
theorem hold_any (h : PT0 w F b t) : Calls Tryz.prog 162 #[.pointer (some ⟨b, 0, none⟩)] w fun e w' => ∃ bm F', e = .returned (.map (some bm)) ∧ PTm w' F' b bm t ∧ Chg F w w' ∧ (∀ k, F k → F' k) ∧ ∀ k, F' k → F k ∨ w.heap.size ≤ k := by
  rcases h with ⟨bm, h⟩ | ⟨h1, h2, h3, h4⟩
  · refine (hold_m h).mono ?_
    rintro e w' ⟨rfl, hb⟩
    exact ⟨bm, F, rfl, h.below hb, chg0 hb, fun k hk => hk, fun k hk => .inl hk⟩
  · refine (hold_new b t.nx w h1).mono ?_
    rintro e w' ⟨bm, rfl, k1, k2, k3, k4⟩
    have := h1.lt
    refine ⟨bm, fun k => F k ∨ k = bm, rfl, ⟨k1, .inl h2, .inr rfl, by omega, fun k hk => hk.elim (fun h => Nat.lt_of_lt_of_le (h3 k h) k4.size) (fun e => by rw [show k = bm from e]; exact MapI.lt k2), .map [], k2, ?_⟩, k4.mono (fun k _ e => by rw [show k = b from e]; exact h2), fun k hk => .inl hk, fun k hk => hk.imp (fun h => h) (fun e => by rw [show k = bm from e]; exact k3)⟩
    rw [h4]
    exact mtk_nil _ _ _ _
/-- .. of a right taker. -/
theorem hold_pt (h : PT w F b t) : Calls Tryz.prog 162 #[.pointer (some ⟨b, 0, none⟩)] w fun e w' => ∃ bm F', e = .returned (.map (some bm)) ∧ PTm w' F' b bm t ∧ Chg F w w' ∧ (∀ k, F k → F' k) ∧ ∀ k, F' k → F k ∨ w.heap.size ≤ k := hold_any h.2
theorem underI : Tryz.prog.underlying 3 = some (.int .i64) := by kernel_rfl
theorem underMP : Tryz.prog.underlying 162 = some (.map 3 31) := by kernel_rfl
theorem lawI : Keyed Tryz.prog 3 := int_keyed underI
theorem wfI {x : Int} (h : 0 ≤ x ∧ x ≤ 65535) : (Lit.int .i64 x).wf = true := WalkArith.wf_i64 (by omega)
theorem keyI {x : Int} (h : 0 ≤ x ∧ x ≤ 65535) : keyOf Tryz.prog 3 (.int .i64 x) = some (.int .i64 x) := keyOf_int_mk underI (wfI h)
theorem turned_chg {bm : Nat} (h : w.mapTurned w' bm) : Chg (fun k => k = bm) w w' := (Chg.refl _ w).grown h.grown (fun k hk => .inl (by cases hk; rfl))
/-- A batch is stored. -/
theorem PTm.store (h : PTm w F b bm t) {n : Int} {ys : List Ob} (hn : 0 ≤ n ∧ n ≤ 65535) (hf : findH t.H n = none) (hl : t.H.length ≤ 1000) {g c : Nat} (ho : Os w (.slice (some ⟨g, 0, none⟩) ys.length c) ys) (hF : F g) (hb : g ≠ b) (hm : g ≠ bm) :
    ∃ w', (Instr.mapUpdate 162 (.map (some bm)) (.int .i64 n) (.slice (some ⟨g, 0, none⟩) ys.length c)).run Tryz.prog w = .ok () w' ∧ PTm w' F b bm ⟨t.nx, t.H ++ [(n, ys)]⟩ ∧ Chg (fun k => k = bm) w w' := by
  obtain ⟨D, h1, h2⟩ := h.m
  obtain ⟨w', hrun, r1, r2⟩ := World.ownsMap.store h1 lawI underMP (by rw [h2.size]; unfold maxLen; omega) (val := .slice (some ⟨g, 0, none⟩) ys.length c) (d := sdat g ys.length c) (ps := []) (keyI hn) rfl
  have hc := turned_chg r2
  have h3 := h2.put hf ho hF hb hm
  exact ⟨w', hrun, ⟨h.q.chg hc (fun e => h.ne e.symm), h.fb, h.fm, h.ne, fun k hk => Nat.lt_of_lt_of_le (h.lt k hk) hc.size, _, MapI.tight r1, h3.chg hc (fun k _ _ hk => hk)⟩, hc⟩
/-- One is taken out. -/
theorem PTm.drop (h : PTm w F b bm t) {x : Bt} (hn : 0 ≤ t.nx ∧ t.nx ≤ 65535) (hf : findH t.H t.nx = some x) (nd : (nums t.H).Nodup) {ty : TypeId} :
    ∃ w', (Builtin.delete_ #[162, 3] ty #[.map (some bm), .int .i64 t.nx]).run Tryz.prog w = .ok (.tuple #[]) w' ∧ PTm w' F b bm ⟨t.nx, dropH t.H t.nx⟩ ∧ Chg (fun k => k = bm) w w' := by
  obtain ⟨D, h1, h2⟩ := h.m
  obtain ⟨w', hrun, r1, r2⟩ := World.ownsMap.drop h1 lawI underMP (keyI hn) ty
  have hc := turned_chg r2
  have h3 := h2.del hf nd
  exact ⟨w', hrun, ⟨h.q.chg hc (fun e => h.ne e.symm), h.fb, h.fm, h.ne, fun k hk => Nat.lt_of_lt_of_le (h.lt k hk) hc.size, _, MapI.tight r1, h3.chg hc (fun k _ _ hk => hk)⟩, hc⟩
/-- Its keys. -/
theorem PTm.keys (h : PTm w F b bm t) (nd : (nums t.H).Nodup) : ∃ D, MapI w bm (Maps.size D) D ∧ Maps.size D = t.H.length ∧ (nums t.H).Perm (intKeys D) := by
  obtain ⟨D, h1, h2⟩ := h.m
  refine ⟨D, h1, h2.size, ?_⟩
  obtain ⟨es, hD, hpw, _⟩ := World.ownsMap.entries h1 lawI
  obtain ⟨es', hD', hko⟩ := World.ownsMap.keysOf h1
  obtain rfl : es = es' := by rw [hD] at hD'; simpa using hD'
  have hh := h2.has
  subst hD
  refine perm_intKeys hpw (fun p hp => by obtain ⟨v, hv⟩ := hko p hp; obtain ⟨x, _, hx, _⟩ := Maps.keyOf_i64 underI hv; exact ⟨x, hx⟩) nd (fun x => ?_)
  rw [hh]
  unfold nums
  rw [List.mem_map]
  constructor
  · rintro ⟨y, hy, rfl⟩
    unfold findH
    rw [List.find?_isSome]
    exact ⟨y, hy, by simp⟩
  · intro hs
    obtain ⟨y, hy⟩ := Option.isSome_iff_exists.1 hs
    obtain ⟨h3, h4⟩ := findH_some hy
    exact ⟨y, h3, h4⟩
end
end Go.Proofs.YtdigjklhfimnbaaGreat
namespace Go.Proofs.YtdigjklhfimnbaaGreat
set_option maxRecDepth 100000
set_option linter.unusedVariables false
open Go.RowKit

open Go.Maps
theorem TkOk.few {t : Tk} (h : TkOk t) : t.H.length ≤ 16 := held_le h
theorem perm_left {ss xs : List Int} (hp : ss.Perm xs) (f : Int) : srt f ss = srt f xs :=
  nice_srt f xs (srt f ss) (srt_nice f ss) (fun x => by
    rw [srt_mem]
    constructor
    · rintro ⟨a, ha, e⟩
      exact ⟨a, hp.mem_iff.1 ha, e⟩
    · rintro ⟨a, ha, e⟩
      exact ⟨a, hp.mem_iff.2 ha, e⟩)
section
variable {w : World} {F : Nat → Prop} {b : Nat} {t : Tk}
theorem tnew_any (w : World) : Calls Tryz.prog 47 #[] w fun e w' => ∃ b F, e = .returned (.pointer (some ⟨b, 0, none⟩)) ∧ PT w' F b tk0 ∧ (∀ k, F k → w.heap.size ≤ k) ∧ Below w.heap.size w w' := by
  have hq : Hid (PT (w.alloc (.cells #[.int .i64 0, .int .u32 0, .int .i32 0, .int .u32 0, .map none] 164)) (fun k => k = w.heap.size) w.heap.size tk0) :=
    ⟨tkok_new, .inr ⟨⟨by simp [tk0], by simp, by simp, by simp, fun j => by simp⟩, rfl, fun k hk => by rw [show k = _ from hk]; simp, rfl⟩⟩
  have hb : Hid (Below w.heap.size w (w.alloc (.cells #[.int .i64 0, .int .u32 0, .int .i32 0, .int .u32 0, .map none] 164))) := (Below.refl _ w).alloc (Nat.le_refl _) _
  go_enter Tryz.func47, Tryz.ntmps47
  go_wp2_with fail
  go_ret
  exact ⟨_, _, rfl, hq.out, fun k hk => Nat.le_of_eq hk.symm, hb.out⟩
set_option maxHeartbeats 4000000 in
theorem theld_any (h : PT w F b t) : Calls Tryz.prog 205 #[.pointer (some ⟨b, 0, none⟩)] w fun e w' => ∃ u F', e = .returned u ∧ Zs w' u (srt t.nx (nums t.H)) ∧ PT w' F' b t ∧ Chg F w w' ∧ (∀ k, F k → F' k) ∧ ∀ k, F' k → F k ∨ w.heap.size ≤ k := by
  have HT := Lib.hid h.1
  have HL : Hid (t.H.length ≤ 16) := held_le h.1
  have C1 := Lib.hid (hold_pt h.drew)
  have c0 := h.2.cN
  clear h
  go_enter Tryz.func205, Tryz.ntmps205
  go_upto_region 3 with (fail)
  go_region_held (fun w' => w'.cell? ⟨b, 0, none⟩ = some (.int .i64 t.nx)) (first | exact o0 | go_keep) (first
    | (go_at_call 162; refine C1.out.mono ?_; rintro e w2 ⟨bm, F2, rfl, hp, hc, hF, hF2⟩; have o0 := hp.q.cN; have HP2 := Lib.hid hp; have HC2 := Lib.hid hc; have HF2 := Lib.hid hF; have HG2 := Lib.hid hF2; clear hp hc hF hF2)
    | (go_at_call 241; refine (pkeys_any bm _).mono ?_; rintro e w3 ⟨rfl, hw3⟩; have hb3 : Below w2.heap.size w2 w3 := hw3 ▸ (Below.refl _ w2).alloc (Nat.le_refl _) _; have HP3 := Lib.hid (HP2.out.below hb3); have HB3 := Lib.hid hb3; have HK3 : Hid (w3.cell? ⟨w2.heap.size, 0, none⟩ = some (.map (some bm))) := (by show _ = _; rw [hw3]; simp); have o0 := HP3.out.q.cN; clear hw3 hb3)
    | (go_at_call 240; obtain ⟨D, k1, k2, k3⟩ := HP3.out.keys HT.out.nd; have hm9 : Maps.size D ≤ 1000 := (by have := HL.out; omega); refine (pcollect_any bm _ _ D _ HK3.out k1 hm9).mono ?_; rintro e w4 ⟨v, ss, rfl, hS, hrow, hb⟩; have HS4 := Lib.hid (hS.trans k3.symm); have HZ4 := Lib.hid hrow; have HB4 := Lib.hid hb; have HP4 := Lib.hid (HP3.out.below hb); have o0 := HP4.out.q.cN; clear hS hrow hb k1 k2 k3 hm9)
    | (go_at_call 239; have hsl : ss.length ≤ 16 := (by have h1 := HS4.out.length_eq; have h2 := HL.out; unfold nums at h1; rw [List.length_map] at h1; omega); refine (sort_any v ss t.nx _ (Zs_of_own HZ4.out (by omega)) (by omega)).mono ?_; rintro e w5 ⟨u, rfl, hz, hb⟩; rw [perm_left HS4.out] at hz; have HZ5 := Lib.hid hz; have HB5 := Lib.hid hb; have HP5 := Lib.hid (HP4.out.below hb); have o0 := HP5.out.q.cN; clear hz hb hsl))
  go_wp2_with fail
  go_ret
  have hb25 : Below w2.heap.size w2 w5 := (HB3.out.trans (HB4.out.mono HB3.out.size)).trans (HB5.out.mono (Nat.le_trans HB3.out.size HB4.out.size))
  exact ⟨u, F2, rfl, HZ5.out, ⟨HT.out, .inl ⟨bm, HP5.out⟩⟩, (((Chg.refl F w).drew).trans HC2.out (fun _ _ h => h)).trans (G := fun _ => False) (chg0 hb25) (fun _ _ e => e.elim), HF2.out, HG2.out⟩
end
end Go.Proofs.YtdigjklhfimnbaaGreat
