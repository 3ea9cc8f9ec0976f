/- The reference's sender in memory. What keeps it. No conditions. The reference's Push, first. No conditions but on lengths. The reference's Again. No conditions. The reference's Got. No conditions. The reference's Send. No conditions. The program's sender and the reference's, apart. No conditions. -/
import Derived.Test.YticjeknadddhoaaPm
import Derived.Test.YticjeknadddhoaaTyp4
import Derived.Test.YticjeknadddhoaaOrt
import Derived.Test.YticjeknadddhoaaTyp5
import Derived.Test.YticjeknadddhoaaAm
import Derived.Test.YticjeknadddhoaaPn
import Derived.LoopTactic
import Derived.BigQuiet
namespace Go.Proofs.Yticjeknadddhoaa
set_option maxRecDepth 100000
set_option linter.unusedVariables false
open Go.RowKit

theorem infoIN : (Try.prog.info? 3).map (fun i => (i.zero, i.size, i.bytes)) = some (some (.int .i64 0), 1, 8) := by kernel_rfl
theorem underIS : Try.prog.underlying 31 = some (.slice 3) := by kernel_rfl
theorem cellsIN : Try.prog.cellsOf 3 = 1 := by kernel_rfl
theorem cellsBT : Try.prog.cellsOf 55 = 2 := by kernel_rfl
noncomputable def RIN : RowT where
  α := Int
  d := 0
  cl := fun n => [.int .i64 n]
  K := 1
  T := 3
  SL := 31
  zero := .int .i64 0
  bytes := 8
  hcl := fun _ => rfl
  hK := by decide
  hone := fun y u hu => by simp only [List.mem_singleton] at hu; subst hu; rfl
  hSL := underIS
  hinfo := infoIN
  hz := rfl
  hb := by decide
  hc := cellsIN
/-- A batch as it lies in a row: its number, its objects' slice. -/
abbrev Bq := Int × Option Addr × Nat × Nat
abbrev slq (q : Bq) : Value := .slice q.2.1 q.2.2.1 q.2.2.2
noncomputable def RBT : RowT where
  α := Bq
  d := (0, none, 0, 0)
  cl := fun q => [.int .i64 q.1, slq q]
  K := 2
  T := 55
  SL := 30
  zero := .agg #[.int .i64 0, .slice none 0 0]
  bytes := 32
  hcl := fun _ => rfl
  hK := by decide
  hone := fun y u hu => by
    simp only [List.mem_cons, List.not_mem_nil, or_false] at hu
    rcases hu with rfl | rfl <;> rfl
  hSL := underBS
  hinfo := infoBT
  hz := rfl
  hb := by decide
  hc := cellsBT
def zq : Bq := (0, none, 0, 0)
theorem gq_at (us : List Bq) (i j : Nat) (hi : i < us.length) (hj : j < 2) : (gflat RBT us)[i * 2 + j]? = ([.int .i64 (us.getD i zq).1, slq (us.getD i zq)] : List Value)[j]? := gflat_at RBT us i j hi hj
def OwQ (w : World) (v : Value) (us : List Bq) : Prop := w.ownsRow 0 55 2 v us.length (gflat RBT us)
def OwN (w : World) (v : Value) (ns : List Int) : Prop := w.ownsRow 0 3 1 v ns.length (gflat RIN ns)
abbrev Ys := List (Bq × Bt)
/-- Each of them reads as it should, its objects in blocks of K that are not what waits. -/
def YOk (w : World) (K : Nat → Prop) (vW : Value) (Y : Ys) : Prop := ∀ y ∈ Y, y.1.1 = y.2.1 ∧ ObI w K vW (slq y.1) y.2.2
/-- The reference's sender. -/
structure XZ (w : World) (K : Nat → Prop) (b : Nat) (s : Sd) (Y : Ys) (M : List Int) (vW vO vS : Value) : Prop where
  lt : ∀ k, K k → k < w.heap.size
  fb : K b
  hp : w.heap[b]? = some (.cells #[.int .i64 s.win, .int .i64 s.tries, vW, vO, vS, .int .i64 s.nx] 33)
  wt : OwO w 0 vW s.W
  wf : ∀ g, vW.ownBlock = some g → K g
  ot : OwQ w vO (Y.map Prod.fst)
  of : ∀ g, vO.ownBlock = some g → K g
  st : OwN w vS M
  sf : ∀ g, vS.ownBlock = some g → K g
  yk : YOk w K vW Y
def XS (w : World) (K : Nat → Prop) (b : Nat) (s : Sd) : Prop := SdOk s ∧ ∃ Y M vW vO vS, XZ w K b s Y M vW vO vS ∧ s.out = Y.map Prod.snd ∧ s.L.map Prod.snd = M
theorem YOk.chg {w w' : World} {K G : Nat → Prop} {vW : Value} {Y : Ys} (h : YOk w K vW Y) (hc : Chg G w w') (hG : ∀ k, K k → BlkT w k 39 → ¬ vW.ownBlock = some k → ¬ G k) : YOk w' K vW Y := fun y hy => ⟨(h y hy).1, (h y hy).2.chg hc hG⟩
theorem YOk.mono {w : World} {K K' : Nat → Prop} {vW : Value} {Y : Ys} (h : YOk w K vW Y) (hK : ∀ k, K k → K' k) : YOk w K' vW Y := fun y hy => ⟨(h y hy).1, (h y hy).2.mono hK⟩
theorem YOk.row {w w0 : World} {K : Nat → Prop} {vW vW' : Value} {Y : Ys} (h : YOk w K vW Y) (hF : ∀ k, K k → k < w0.heap.size) (hv : ∀ g, vW'.ownBlock = some g → vW.ownBlock = some g ∨ w0.heap.size ≤ g) : YOk w K vW' Y := fun y hy => ⟨(h y hy).1, (h y hy).2.row hF hv⟩
/-- A row of batches reads. -/
theorem yk_bts {w : World} {K : Nat → Prop} {vW v : Value} {Y : Ys} (h : OwQ w v (Y.map Prod.fst)) (hy : YOk w K vW Y) : Bts w v (Y.map Prod.snd) := by
  unfold OwQ at h
  rw [List.length_map] at h
  rcases h.2 with ⟨h4, h5⟩ | ⟨g, cap, cur, h4, _, hg, _, _, hcs, htake⟩
  · refine .inl ⟨none, 0, h4, ?_⟩
    rw [List.eq_nil_of_length_eq_zero h5]
    rfl
  · refine .inr ⟨g, 0, cap, by rw [List.length_map]; exact h4, fun i hi => ?_⟩
    rw [List.length_map] at hi
    have e2 : (Y.map Prod.snd).getD i zb = Y[i].2 := by simp [List.getD, hi]
    obtain ⟨q1, q2⟩ := hy _ (List.getElem_mem hi)
    obtain ⟨us, hus⟩ : ∃ us, Y.map Prod.fst = us := ⟨_, rfl⟩
    have hul : us.length = Y.length := by rw [← hus, List.length_map]
    have e1 : us.getD i zq = Y[i].1 := by rw [← hus]; simp [List.getD, hi]
    rw [hus] at htake
    have hc : ∀ j, j < 2 → w.cell? ⟨g, 0 + i * 2 + j, none⟩ = ([.int .i64 Y[i].1.1, slq Y[i].1] : List Value)[j]? := fun j hj => by
      have h7 := gq_at us i j (by omega) hj
      rw [e1] at h7
      rw [cell_of_row w g _ cur 55 (0, 0) hg, Nat.zero_add, ← h7, ← htake, List.getElem?_take, if_pos (show i * 2 + j < Y.length * 2 by omega)]
      simp
    rw [e2, ← q1]
    exact ⟨hc 0 (by decide), slq Y[i].1, hc 1 (by decide), q2.os⟩
section
variable {w w' : World} {K K' G : Nat → Prop} {b : Nat} {s : Sd} {Y : Ys} {M : List Int} {vW vO vS : Value}
theorem XZ.bt (h : XZ w K b s Y M vW vO vS) : BlkT w b 33 := ⟨_, _, h.hp⟩
theorem XZ.keep (h : XZ w K b s Y M vW vO vS) (hc : Chg G w w') (hG : ∀ k, K k → ¬ G k) : XZ w' K b s Y M vW vO vS :=
  ⟨fun k hk => Nat.lt_of_lt_of_le (h.lt k hk) hc.size, h.fb, (hc.block b (h.lt b h.fb) (hG b h.fb)).trans h.hp, own_chg h.wt hc (fun g hg => hG g (h.wf g hg)), h.wf, own_chg h.ot hc (fun g hg => hG g (h.of g hg)), h.of, own_chg h.st hc (fun g hg => hG g (h.sf g hg)), h.sf, h.yk.chg hc (fun k hk _ _ => hG k hk)⟩
theorem XZ.below (h : XZ w K b s Y M vW vO vS) (hb : Below w.heap.size w w') : XZ w' K b s Y M vW vO vS := h.keep (G := fun _ => False) (chg0 hb) (fun _ _ g => g)
theorem XZ.mono (h : XZ w K b s Y M vW vO vS) (hF : ∀ k, K k → K' k) (hl : ∀ k, K' k → k < w.heap.size) : XZ w K' b s Y M vW vO vS :=
  ⟨hl, hF b h.fb, h.hp, h.wt, fun g hg => hF g (h.wf g hg), h.ot, fun g hg => hF g (h.of g hg), h.st, fun g hg => hF g (h.sf g hg), h.yk.mono hF⟩
theorem XZ.cells (h : XZ w K b s Y M vW vO vS) : w.cell? ⟨b, 0, none⟩ = some (.int .i64 s.win) ∧ w.cell? ⟨b, 1, none⟩ = some (.int .i64 s.tries) ∧ w.cell? ⟨b, 2, none⟩ = some vW ∧ w.cell? ⟨b, 3, none⟩ = some vO ∧ w.cell? ⟨b, 4, none⟩ = some vS ∧ w.cell? ⟨b, 5, none⟩ = some (.int .i64 s.nx) ∧ ∀ j, w.frozen? ⟨b, j, none⟩ = false := by
  refine ⟨?_, ?_, ?_, ?_, ?_, ?_, fun j => by simp [World.frozen?, h.hp]⟩ <;> simp [World.cell?, h.hp]
theorem XZ.wform (h : XZ w K b s Y M vW vO vS) : ∃ a c, vW = .slice a s.W.length c := own_form h.wt
theorem XZ.oform (h : XZ w K b s Y M vW vO vS) : ∃ a c, vO = .slice a Y.length c := by
  obtain ⟨a, c, e⟩ := own_form h.ot
  exact ⟨a, c, by rw [e, List.length_map]⟩
theorem XZ.sform (h : XZ w K b s Y M vW vO vS) : ∃ a c, vS = .slice a M.length c := own_form h.st
theorem XZ.bts (h : XZ w K b s Y M vW vO vS) : Bts w vO (Y.map Prod.snd) := yk_bts h.ot h.yk
theorem XZ.nset (h : XZ w K b s Y M vW vO vS) (n : Int) : XZ (w.setCell ⟨b, 5, none⟩ (.int .i64 n)) K b { s with nx := n } Y M vW vO vS := by
  have hc : Chg (fun k => k = b) w (w.setCell ⟨b, 5, none⟩ (.int .i64 n)) := chg_pt _ _ _ _
  refine ⟨fun k hk => by have := h.lt k hk; simpa [World.setCell] using this, h.fb, ?_, own_chg h.wt hc (fun g hg e => ?_), h.wf, own_chg h.ot hc (fun g hg e => ?_), h.of, own_chg h.st hc (fun g hg e => ?_), h.sf, h.yk.chg hc (fun k _ hk _ => hk.ne h.bt (by decide))⟩
  · rw [heap_setCell_same w b 5 _ 33 _ h.hp]; rfl
  · subst e; exact (own_blk h.wt hg).ne h.bt (by decide) rfl
  · subst e; exact (own_blk h.ot hg).ne h.bt (by decide) rfl
  · subst e; exact (own_blk h.st hg).ne h.bt (by decide) rfl
/-- Another row of what waits. -/
theorem XZ.wset (h : XZ w K b s Y M vW vO vS) (hc : Chg (fun k => vW.ownBlock = some k) w w') {vW' : Value} {W' : List Ob} (ho : OwO w' 0 vW' W') (hv : ∀ g, vW'.ownBlock = some g → vW.ownBlock = some g ∨ w.heap.size ≤ g) :
    XZ (w'.setCell ⟨b, 2, none⟩ vW') (FN K w w') b { s with W := W' } Y M vW' vO vS := by
  have hb : ¬ vW.ownBlock = some b := fun e => (own_blk h.wt e).ne h.bt (by decide) rfl
  have hp' : w'.heap[b]? = some (.cells #[.int .i64 s.win, .int .i64 s.tries, vW, vO, vS, .int .i64 s.nx] 33) := (hc.block b (h.lt b h.fb) hb).trans h.hp
  have hc2 : Chg (fun k => k = b) w' (w'.setCell ⟨b, 2, none⟩ vW') := chg_pt _ _ _ _
  have hbt : BlkT w' b 33 := ⟨_, _, hp'⟩
  have hs : (w'.setCell ⟨b, 2, none⟩ vW').heap.size = w'.heap.size := by simp [World.setCell]
  refine ⟨fun k hk => by rw [hs]; exact FN.lt h.lt hc.size k hk, .inl h.fb, ?_, own_chg ho hc2 (fun g hg e => ?_), fun g hg => ?_, own_chg (own_chg h.ot hc (fun g hg e => ?_)) hc2 (fun g hg e => ?_), fun g hg => .inl (h.of g hg), own_chg (own_chg h.st hc (fun g hg e => ?_)) hc2 (fun g hg e => ?_), fun g hg => .inl (h.sf g hg), ?_⟩
  · rw [heap_setCell_same w' b 2 _ 33 _ hp']; rfl
  · subst e; exact (own_blk ho hg).ne hbt (by decide) rfl
  · exact (hv g hg).elim (fun h2 => .inl (h.wf g h2)) (fun h2 => .inr ⟨h2, (World.ownsRow.lt ho g hg).2⟩)
  · exact (own_blk h.ot hg).ne (own_blk h.wt e) (by decide) rfl
  · subst e; exact (own_blk h.ot hg).ne h.bt (by decide) rfl
  · exact (own_blk h.st hg).ne (own_blk h.wt e) (by decide) rfl
  · subst e; exact (own_blk h.st hg).ne h.bt (by decide) rfl
  · exact (((h.yk.chg hc (fun k _ _ hk => hk)).row (w0 := w) h.lt hv).chg hc2 (fun k _ hk _ => hk.ne hbt (by decide))).mono (fun k hk => .inl hk)
/-- Another row of what is out: laid down in its elder block, or elsewhere. -/
theorem XZ.oset (h : XZ w K b s Y M vW vO vS) (hc : Chg (fun k => vO.ownBlock = some k) w w') {vO' : Value} {Y' : Ys} (ho : OwQ w' vO' (Y'.map Prod.fst)) (hv : ∀ g, vO'.ownBlock = some g → K g ∨ w.heap.size ≤ g) (hy : YOk w K vW Y') :
    XZ (w'.setCell ⟨b, 3, none⟩ vO') (FN K w w') b s Y' M vW vO' vS := by
  have hb : ¬ vO.ownBlock = some b := fun e => (own_blk h.ot e).ne h.bt (by decide) rfl
  have hp' : w'.heap[b]? = some (.cells #[.int .i64 s.win, .int .i64 s.tries, vW, vO, vS, .int .i64 s.nx] 33) := (hc.block b (h.lt b h.fb) hb).trans h.hp
  have hc2 : Chg (fun k => k = b) w' (w'.setCell ⟨b, 3, none⟩ vO') := chg_pt _ _ _ _
  have hbt : BlkT w' b 33 := ⟨_, _, hp'⟩
  have hs : (w'.setCell ⟨b, 3, none⟩ vO').heap.size = w'.heap.size := by simp [World.setCell]
  refine ⟨fun k hk => by rw [hs]; exact FN.lt h.lt hc.size k hk, .inl h.fb, ?_, own_chg (own_chg h.wt hc (fun g hg e => ?_)) hc2 (fun g hg e => ?_), fun g hg => .inl (h.wf g hg), own_chg ho hc2 (fun g hg e => ?_), fun g hg => ?_, own_chg (own_chg h.st hc (fun g hg e => ?_)) hc2 (fun g hg e => ?_), fun g hg => .inl (h.sf g hg), ?_⟩
  · rw [heap_setCell_same w' b 3 _ 33 _ hp']; rfl
  · exact (own_blk h.wt hg).ne (own_blk h.ot e) (by decide) rfl
  · subst e; exact (own_blk h.wt hg).ne h.bt (by decide) rfl
  · subst e; exact (own_blk ho hg).ne hbt (by decide) rfl
  · exact (hv g hg).elim (fun h2 => .inl h2) (fun h2 => .inr ⟨h2, (World.ownsRow.lt ho g hg).2⟩)
  · exact (own_blk h.st hg).ne (own_blk h.ot e) (by decide) rfl
  · subst e; exact (own_blk h.st hg).ne h.bt (by decide) rfl
  · exact ((hy.chg hc (fun k _ hk _ e => hk.ne (own_blk h.ot e) (by decide) rfl)).chg hc2 (fun k _ hk _ => hk.ne hbt (by decide))).mono (fun k hk => .inl hk)
/-- Another row of how often that was sent. -/
theorem XZ.sset (h : XZ w K b s Y M vW vO vS) (hc : Chg (fun k => vS.ownBlock = some k) w w') {vS' : Value} {M' : List Int} (ho : OwN w' vS' M') (hv : ∀ g, vS'.ownBlock = some g → K g ∨ w.heap.size ≤ g) :
    XZ (w'.setCell ⟨b, 4, none⟩ vS') (FN K w w') b s Y M' vW vO vS' := by
  have hb : ¬ vS.ownBlock = some b := fun e => (own_blk h.st e).ne h.bt (by decide) rfl
  have hp' : w'.heap[b]? = some (.cells #[.int .i64 s.win, .int .i64 s.tries, vW, vO, vS, .int .i64 s.nx] 33) := (hc.block b (h.lt b h.fb) hb).trans h.hp
  have hc2 : Chg (fun k => k = b) w' (w'.setCell ⟨b, 4, none⟩ vS') := chg_pt _ _ _ _
  have hbt : BlkT w' b 33 := ⟨_, _, hp'⟩
  have hs : (w'.setCell ⟨b, 4, none⟩ vS').heap.size = w'.heap.size := by simp [World.setCell]
  refine ⟨fun k hk => by rw [hs]; exact FN.lt h.lt hc.size k hk, .inl h.fb, ?_, own_chg (own_chg h.wt hc (fun g hg e => ?_)) hc2 (fun g hg e => ?_), fun g hg => .inl (h.wf g hg), own_chg (own_chg h.ot hc (fun g hg e => ?_)) hc2 (fun g hg e => ?_), fun g hg => .inl (h.of g hg), own_chg ho hc2 (fun g hg e => ?_), fun g hg => ?_, ?_⟩
  · rw [heap_setCell_same w' b 4 _ 33 _ hp']; rfl
  · exact (own_blk h.wt hg).ne (own_blk h.st e) (by decide) rfl
  · subst e; exact (own_blk h.wt hg).ne h.bt (by decide) rfl
  · exact (own_blk h.ot hg).ne (own_blk h.st e) (by decide) rfl
  · subst e; exact (own_blk h.ot hg).ne h.bt (by decide) rfl
  · subst e; exact (own_blk ho hg).ne hbt (by decide) rfl
  · exact (hv g hg).elim (fun h2 => .inl h2) (fun h2 => .inr ⟨h2, (World.ownsRow.lt ho g hg).2⟩)
  · exact ((h.yk.chg hc (fun k _ hk _ e => hk.ne (own_blk h.st e) (by decide) rfl)).chg hc2 (fun k _ hk _ => hk.ne hbt (by decide))).mono (fun k hk => .inl hk)
/-- The same row of how often it was sent, with other numbers. -/
theorem XZ.sput (h : XZ w K b s Y M vW vO vS) (hc : Chg (fun k => vS.ownBlock = some k) w w') {M' : List Int} (ho : OwN w' vS M') : XZ w' K b s Y M' vW vO vS :=
  ⟨fun k hk => Nat.lt_of_lt_of_le (h.lt k hk) hc.size, h.fb, (hc.block b (h.lt b h.fb) (fun e => (own_blk h.st e).ne h.bt (by decide) rfl)).trans h.hp, own_chg h.wt hc (fun g hg e => (own_blk h.wt hg).ne (own_blk h.st e) (by decide) rfl), h.wf, own_chg h.ot hc (fun g hg e => (own_blk h.ot hg).ne (own_blk h.st e) (by decide) rfl), h.of, ho, h.sf, h.yk.chg hc (fun k _ hk _ e => hk.ne (own_blk h.st e) (by decide) rfl)⟩
end
end Go.Proofs.Yticjeknadddhoaa

namespace Go.Proofs.Yticjeknadddhoaa
set_option maxRecDepth 100000
set_option linter.unusedVariables false
open Go.RowKit

section
variable {w : World} {K : Nat → Prop} {b : Nat} {s : Sd} {Y : Ys} {M : List Int} {vW vO vS : Value}
set_option maxHeartbeats 8000000 in
theorem xpush_any (y : Ob) (h : XZ w K b s Y M vW vO vS) (hl : s.W.length ≤ 1024) :
    Calls Try.prog 12 #[.pointer (some ⟨b, 0, none⟩), .agg #[.int .i64 y.k, .int .i64 y.x, .bool y.n, .int .i64 y.t, .int .i64 y.o, .int .i64 y.r, .int .i64 y.d, .int .i64 y.i, .int .i64 y.p, .int .i64 y.q, .int .i64 y.s, .int .i64 y.m]] w fun e w' => e = .returned (.int .i64 (pushR s y).1) ∧ Chg K w w' ∧ ∃ K' vW', XZ w' K' b (pushR s y).2 Y M vW' vO vS ∧ ∀ k, K' k → K k ∨ w.heap.size ≤ k := by
  obtain ⟨W1, hW1⟩ : ∃ W1, w.alloc (.cells #[.int .i64 y.k, .int .i64 y.x, .bool y.n, .int .i64 y.t, .int .i64 y.o, .int .i64 y.r, .int .i64 y.d, .int .i64 y.i, .int .i64 y.p, .int .i64 y.q, .int .i64 y.s, .int .i64 y.m] 39) = W1 := ⟨_, rfl⟩
  have hb1 : Below w.heap.size w W1 := hW1 ▸ (Below.refl _ w).alloc (Nat.le_refl _) _
  obtain ⟨g0, hg0⟩ : ∃ g0, w.heap.size = g0 := ⟨_, rfl⟩
  have hs1 : W1.heap.size = g0 + 1 := by rw [← hg0, ← hW1]; simp
  have hy1 : Cells12 W1 g0 y.k y.x y.n y.t y.o y.r y.d y.i y.p y.q y.s y.m := by rw [← hW1, ← hg0]; exact cells12_alloc w _ _ _ _ _ _ _ _ _ _ _ _ _
  have HFL : Hid (∀ k, K k → k < g0) := fun k hk => hg0 ▸ h.lt k hk
  obtain ⟨a, c, rfl⟩ := h.wform
  have H1 := Lib.hid (h.below hb1)
  have HB1 := Lib.hid hb1
  have HW1 := Lib.hid hW1
  have HG0 := Lib.hid hg0
  have HS1 := Lib.hid hs1
  have HY1 := Lib.hid hy1
  have HL := Lib.hid hl
  have C1 := Lib.hid (oright_any y.k y.x y.n y.t y.o y.r y.d y.i y.p y.q y.s y.m W1)
  clear h hb1 hW1 hg0 hs1 hy1 hl
  go_enter Try.func12, Try.ntmps12
  go_upto_region 1 with (fail)
  rw [HW1.out]
  simp only [HG0.out]
  obtain ⟨u0, u1, u2, u3, u4, u5, u6, u7, u8, u9, u10, u11⟩ := HY1.out
  go_wp2_with fail
  refine C1.out.mono ?_
  rintro e W2 ⟨rfl, hb⟩
  clear u0 u1 u2 u3 u4 u5 u6 u7 u8 u9 u10 u11
  have HY2 := Lib.hid (HY1.out.below hb)
  have H2 := Lib.hid (H1.out.below hb)
  have HB2 := Lib.hid (HB1.out.trans (hb.mono HB1.out.size))
  have HS2 : Hid (g0 + 1 ≤ W2.heap.size) := HS1.out ▸ hb.size
  clear hb C1
  by_cases hok : y.Ok
  · have e0 : decide (ObOk y.k y.x y.n y.t y.o y.r y.d y.i y.p y.q y.s y.m) = true := decide_eq_true hok
    obtain ⟨c0, c1, c2, c3, c4, c5, cf⟩ := H2.out.cells
    rw [e0]
    by_cases hf : s.W.length = 1024
    · have e1 : Hid (pushR s y = (8, s)) := pushR_full hok (by omega)
      have hd : decide ((1024 : Int) ≤ (s.W.length : Int)) = true := decide_eq_true (by omega)
      clear hok hf e0
      go_wp2_with fail
      go_ret
      rw [e1.out]
      exact ⟨rfl, chg0 HB2.out, K, _, H2.out, fun k hk => .inl hk⟩
    · have e1 : Hid (pushR s y = (0, { s with W := s.W ++ [y] })) := pushR_ok hok (by have := HL.out; omega)
      have hd : decide ((1024 : Int) ≤ (s.W.length : Int)) = false := decide_eq_false (by have := HL.out; omega)
      clear hok hf e0
      clear c0 c1 c3 c4 c5 cf
      go_upto_region 5 with (fail)
      clear c2
      have kc : ∀ w', Chg (fun k => (Value.slice a s.W.length c).ownBlock = some k) W2 w' → (w'.cell? ⟨b, 2, none⟩ = some (.slice a s.W.length c)) ∧ w'.cell? ⟨g0, 0, none⟩ = some (.int .i64 y.k) ∧ w'.cell? ⟨g0, 1, none⟩ = some (.int .i64 y.x) ∧ w'.cell? ⟨g0, 2, none⟩ = some (.bool y.n) ∧ w'.cell? ⟨g0, 3, none⟩ = some (.int .i64 y.t) ∧ w'.cell? ⟨g0, 4, none⟩ = some (.int .i64 y.o) ∧ w'.cell? ⟨g0, 5, none⟩ = some (.int .i64 y.r) ∧ w'.cell? ⟨g0, 6, none⟩ = some (.int .i64 y.d) ∧ w'.cell? ⟨g0, 7, none⟩ = some (.int .i64 y.i) ∧ w'.cell? ⟨g0, 8, none⟩ = some (.int .i64 y.p) ∧ w'.cell? ⟨g0, 9, none⟩ = some (.int .i64 y.q) ∧ w'.cell? ⟨g0, 10, none⟩ = some (.int .i64 y.s) ∧ w'.cell? ⟨g0, 11, none⟩ = some (.int .i64 y.m) := by
        intro w' hc
        have n1 : ¬ (Value.slice a s.W.length c).ownBlock = some b := fun e => (own_blk H2.out.wt e).ne H2.out.bt (by decide) rfl
        have n2 : ¬ (Value.slice a s.W.length c).ownBlock = some g0 := fun e => by have := HFL.out _ (H2.out.wf _ e); omega
        have f : ∀ {j : Nat} {v : Value}, W2.cell? ⟨g0, j, none⟩ = some v → w'.cell? ⟨g0, j, none⟩ = some v := fun h => (hc.cell (by have := HS2.out; omega) n2).trans h
        obtain ⟨h0, h1, h2, h3, h4, h5, h6, h7, h8, h9, h10, h11⟩ := HY2.out
        exact ⟨(hc.cell (H2.out.lt b H2.out.fb) n1).trans H2.out.cells.2.2.1, f h0, f h1, f h2, f h3, f h4, f h5, f h6, f h7, f h8, f h9, f h10, f h11⟩
      have HXL : Hid (s.W.length ≤ 3000) := Nat.le_trans HL.out (by decide)
      have HSW : Hid (0 ≤ W2.heap.size) := Nat.zero_le _
      have OW : Hid (W2.ownsRow 0 (ROB).T (ROB).K (Value.slice a s.W.length c) s.W.length (gflat ROB s.W)) := H2.out.wt
      have HROW : ∀ k, (Value.slice a s.W.length c).ownBlock = some k → k < W2.heap.size := fun k hk => H2.out.lt k (H2.out.wf k hk)
      refine T3.wp_region_tail (C := fun w' => Chg (fun k => (Value.slice a s.W.length c).ownBlock = some k) W2 w' ∧ w'.ownsRow 0 (ROB).T (ROB).K (Value.slice a s.W.length c) (s.W).length (gflat ROB (s.W))) (X := GX (Value.ownBlock (Value.slice a s.W.length c)) 7) (n := 24) 10 (by kernel_rfl) (by kernel_rfl) (by kernel_rfl) (by kernel_rfl) rfl (GX_refl _ 7) ⟨(Chg.refl _ _).drew, OW.out.drew⟩ ?_
      simp only [List.take_succ_cons, List.take_zero, List.drop_succ_cons, List.drop_zero]
      refine T3.w_is (GX_refl _ 7) rfl _ (.inl rfl) (fun ρ w hC hc hfn hf => by have e0 : ρ (.tmp 0) = _ := hf 0 (by decide); (conv => lhs; simp [execOp, go_sem, hc, e0])) ?_
      refine T3.w_is (GX_refl _ 7) rfl _ (.inl rfl) (fun ρ w hC hc hfn hf => by have e0 : ρ (.tmp 0) = _ := hf 0 (by decide); (conv => lhs; simp [execOp, go_sem, hc, e0])) ?_
      refine T3.w_is (GX_refl _ 7) rfl _ (.inl rfl) (fun ρ w hC hc hfn hf => by have e15 : ρ (.tmp 15) = _ := hf 15 (by decide); (conv => lhs; simp [execOp, go_sem, hc, e15])) ?_
      refine T3.w_is (GX_refl _ 7) rfl _ (.inl rfl) (fun ρ w hC hc hfn hf => by have e16 : ρ (.tmp 16) = _ := hf 16 (by decide); (conv => lhs; simp [execOp, go_sem, hc, e16])) ?_
      refine T3.w_is (GX_refl _ 7) rfl _ (.inl rfl) (fun ρ w hC hc hfn hf => by have e17 : ρ (.tmp 17) = _ := hf 17 (by decide); (conv => lhs; simp [execOp, go_sem, hc, e17, kc w hC.1])) ?_
      refine T3.w_is (GX_refl _ 7) rfl _ (.inl rfl) (fun ρ w hC hc hfn hf => by have e3 : ρ (.tmp 3) = _ := hf 3 (by decide); (conv => lhs; simp [execOp, go_sem, hc, e3, kc w hC.1])) ?_
      refine T3.w_make rfl (NewG (R := ROB) W2 (y)) (NewG.keeps HROW 7 6) (.inl rfl) (fun ρ w hC hc hfn hf => by have e19 : ρ (.tmp 19) = _ := hf 19 (by decide); exact ⟨_, _, by (conv => lhs; simp [execOp, go_sem, hc, e19]); rfl, ⟨hC.1.alloc _, gown_below hC.2 ((Below.refl _ w).alloc (Nat.le_refl _) _)⟩, GX_of (by decide) ((Below.refl _ w).alloc (Nat.le_refl _) _), ⟨_, rfl, hC.1.size, gc_alloc (ROB) w (y) _ rfl 39⟩⟩) ?_
      refine T3.w_make rfl (NewR (ROB) W2 0 (Value.slice a s.W.length c) ((s.W) ++ [y]) ((s.W).length + 1)) (NewR.keeps 7) (.inl rfl) (fun ρ w hC hc hfn hf => by have e18 : ρ (.tmp 18) = _ := hf 18 (by decide); obtain ⟨bq, e20, hb1, hb2⟩ := (show NewG (R := ROB) W2 (y) (ρ (.tmp 20)) w from hf 20 (by decide)); obtain ⟨gq, cq, wq, hr, hq1, hq2, hq4, hq3⟩ := run_gappr (ROB) w 0 _ (s.W) hC.2 bq (y) hb2 HXL.out (Nat.le_trans HSW.out hC.1.size); exact ⟨_, wq, gexec_append rfl e18 e20 hr, ⟨hC.1.grown hq2 (fun k hk => .inl hk), hq4⟩, GX_at rfl hq2, ⟨gq, cq, rfl, hq1, hq3.imp (fun h => h) (fun h => Nat.le_trans hC.1.size h)⟩⟩) ?_
      refine T3.w_is (GX_refl _ 7) rfl _ (.inl rfl) (fun ρ w hC hc hfn hf => by have e14 : ρ (.tmp 14) = _ := hf 14 (by decide); (conv => lhs; simp [execOp, go_sem, hc, e14])) ?_
      refine T3.w_is (GX_refl _ 7) rfl _ (.inl rfl) (fun ρ w hC hc hfn hf => by have e22 : ρ (.tmp 22) = _ := hf 22 (by decide); (conv => lhs; simp [execOp, go_sem, hc, e22])) ?_
      intro A V5 hC hn hd hf
      obtain ⟨bq, y20, -, -⟩ := (show NewG (R := ROB) W2 (y) (A.eval (.tmp 20)) V5 from hf 20)
      obtain ⟨gq, cq, y21, OQ, HQ9⟩ := (show NewR (ROB) W2 0 (Value.slice a s.W.length c) ((s.W) ++ [y]) ((s.W).length + 1) (A.eval (.tmp 21)) V5 from hf 21)
      rw [y21] at OQ
      have y0 : A.eval (.tmp 0) = _ := Eq.trans (hf 0) (by conv => lhs; simp [go_sem])
      have y1 : A.eval (.tmp 1) = _ := Eq.trans (hf 1) (by conv => lhs; simp [go_sem])
      have y2 : A.eval (.tmp 2) = _ := Eq.trans (hf 2) (by conv => lhs; simp [go_sem])
      have y3 : A.eval (.tmp 3) = _ := Eq.trans (hf 3) (by conv => lhs; simp [go_sem])
      have y4 : A.eval (.tmp 4) = _ := Eq.trans (hf 4) (by conv => lhs; simp [go_sem])
      have y5 : A.eval (.tmp 5) = _ := Eq.trans (hf 5) (by conv => lhs; simp [go_sem])
      have y6 : A.eval (.tmp 6) = _ := Eq.trans (hf 6) (by conv => lhs; simp [go_sem])
      have y7 : A.eval (.tmp 7) = _ := Eq.trans (hf 7) (by conv => lhs; simp [go_sem])
      have y8 : A.eval (.tmp 8) = _ := Eq.trans (hf 8) (by conv => lhs; simp [go_sem])
      have y9 : A.eval (.tmp 9) = _ := Eq.trans (hf 9) (by conv => lhs; simp [go_sem])
      have y10 : A.eval (.tmp 10) = _ := Eq.trans (hf 10) (by conv => lhs; simp [go_sem])
      have y11 : A.eval (.tmp 11) = _ := Eq.trans (hf 11) (by conv => lhs; simp [go_sem])
      have y12 : A.eval (.tmp 12) = _ := Eq.trans (hf 12) (by conv => lhs; simp [go_sem])
      have y13 : A.eval (.tmp 13) = _ := Eq.trans (hf 13) (by conv => lhs; simp [go_sem])
      have y14 : A.eval (.tmp 14) = _ := hf 14
      have y15 : A.eval (.tmp 15) = _ := hf 15
      have y16 : A.eval (.tmp 16) = _ := hf 16
      have y17 : A.eval (.tmp 17) = _ := hf 17
      have y18 : A.eval (.tmp 18) = _ := hf 18
      have y19 : A.eval (.tmp 19) = _ := hf 19
      have y22 : A.eval (.tmp 22) = _ := hf 22
      have y23 : A.eval (.tmp 23) = _ := hf 23
      clear hf
      have hA := frame_eq hn
      rw [show List.range 24 = [0, 1, 2, 3, 4, 5, 6, 7, 8, 9, 10, 11, 12, 13, 14, 15, 16, 17, 18, 19, 20, 21, 22, 23] from rfl, hd] at hA
      simp only [List.map_cons, List.map_nil, y0, y1, y2, y3, y4, y5, y6, y7, y8, y9, y10, y11, y12, y13, y14, y15, y16, y17, y18, y19, y20, y21, y22, y23] at hA
      clear y0 y1 y2 y3 y4 y5 y6 y7 y8 y9 y10 y11 y12 y13 y14 y15 y16 y17 y18 y19 y20 y21 y22 y23
      clear hn hd
      subst hA
      obtain ⟨hC1, hC2⟩ := hC
      have hfin := H2.out.wset hC1 (vW' := .slice (some ⟨gq, 0, none⟩) (s.W.length + 1) cq) (W' := s.W ++ [y]) OQ (fun g hg => by cases hg; exact HQ9)
      have n1 : ¬ (Value.slice a s.W.length c).ownBlock = some b := fun e => (own_blk H2.out.wt e).ne H2.out.bt (by decide) rfl
      have hp5 : V5.heap[b]? = some (.cells #[.int .i64 s.win, .int .i64 s.tries, .slice a s.W.length c, vO, vS, .int .i64 s.nx] 33) := (hC1.block b (H2.out.lt b H2.out.fb) n1).trans H2.out.hp
      have c3 : V5.cell? ⟨b, 2, none⟩ = some (.slice a s.W.length c) := by simp [World.cell?, hp5]
      have cf : ∀ j, V5.frozen? ⟨b, j, none⟩ = false := fun j => by simp [World.frozen?, hp5]
      have hcg : Chg K w (V5.setCell ⟨b, 2, none⟩ (.slice (some ⟨gq, 0, none⟩) (s.W.length + 1) cq)) := ((chg0 HB2.out).trans (hC1.mono (fun x _ hx => H2.out.wf x hx)) (fun _ _ hx => hx)).setCell (.inl H2.out.fb) _
      have HFIN := Lib.hid hfin
      have HCG := Lib.hid hcg
      have HSZ : Hid (w.heap.size ≤ W2.heap.size) := HB2.out.size
      clear hC1 hC2 hfin hp5 hcg n1 kc HROW HQ9 OQ
      go_wp2_with fail
      go_ret
      rw [e1.out]
      exact ⟨rfl, HCG.out, _, _, HFIN.out, fun k hk => hk.imp (fun h => h) (fun h => Nat.le_trans HSZ.out h.1)⟩
  · have e0 : decide (ObOk y.k y.x y.n y.t y.o y.r y.d y.i y.p y.q y.s y.m) = false := decide_eq_false hok
    have e1 : Hid (pushR s y = (1, s)) := pushR_no hok
    rw [e0]
    clear hok e0
    go_wp2_with fail
    go_ret
    rw [e1.out]
    exact ⟨rfl, chg0 HB2.out, K, _, H2.out, fun k hk => .inl hk⟩
/-- What lies in a row of batches. -/
theorem yq_at {v : Value} {a : Option Addr} {c n k : Nat} {y : Bq × Bt} (h : OwQ w (.slice a n c) (Y.map Prod.fst)) (hk : Y[k]? = some y) : ∃ g, a = some ⟨g, 0, none⟩ ∧ n = Y.length ∧ n ≤ c ∧ w.cell? ⟨g, k * 2, none⟩ = some (.int .i64 y.1.1) ∧ w.cell? ⟨g, k * 2 + 1, none⟩ = some (slq y.1) := by
  obtain ⟨hk', rfl⟩ := List.getElem?_eq_some_iff.1 hk
  unfold OwQ at h
  rw [List.length_map] at h
  rcases h.2 with ⟨h4, h5⟩ | ⟨g, cap, cur, h4, _, hg, hnc, _, hcs, htake⟩
  · omega
  · simp only [Value.slice.injEq] at h4
    obtain ⟨rfl, rfl, rfl⟩ := h4
    obtain ⟨us, hus⟩ : ∃ us, Y.map Prod.fst = us := ⟨_, rfl⟩
    have hul : us.length = Y.length := by rw [← hus, List.length_map]
    have e1 : us.getD k zq = Y[k].1 := by rw [← hus]; simp [List.getD, hk']
    rw [hus] at htake
    have hc : ∀ j, j < 2 → w.cell? ⟨g, k * 2 + j, none⟩ = ([.int .i64 Y[k].1.1, slq Y[k].1] : List Value)[j]? := fun j hj => by
      have h7 := gq_at us k j (by omega) hj
      rw [e1] at h7
      rw [cell_of_row w g _ cur 55 (0, 0) hg, ← h7, ← htake, List.getElem?_take, if_pos (show k * 2 + j < Y.length * 2 by omega)]
      simp
    exact ⟨g, rfl, rfl, hnc, hc 0 (by decide), hc 1 (by decide)⟩
theorem fst_y {y : Bq × Bt} (hs : s.out = Y.map Prod.snd) (hk : Y[0]? = some y) : fstN s = y.2.1 := by
  unfold fstN
  unfold Sd.out at hs
  cases hL : s.L with
  | nil =>
    rw [hL] at hs
    cases Y with
    | nil => cases hk
    | cons y Y => cases hs
  | cons e l =>
    rw [hL] at hs
    cases Y with
    | nil => cases hk
    | cons z Y =>
      simp only [List.map_cons, List.cons.injEq] at hs
      simp only [List.getElem?_cons_zero, Option.some.injEq] at hk
      subst hk
      show e.1.1 = _
      rw [hs.1]
theorem fst_n (hs : s.out = Y.map Prod.snd) (hy : Y = []) : fstN s = s.nx := by
  unfold fstN
  unfold Sd.out at hs
  subst hy
  cases hL : s.L with
  | nil => rfl
  | cons e l => rw [hL] at hs; cases hs
theorem xfirst_any (h : XZ w K b s Y M vW vO vS) (f : Int) (hf0 : ∀ y, Y[0]? = some y → y.2.1 = f) (hf1 : Y = [] → s.nx = f) : Calls Try.prog 32 #[.pointer (some ⟨b, 0, none⟩)] w fun e w' => e = .returned (.int .i64 f) ∧ w = w' := by
  obtain ⟨a, c, rfl⟩ := h.oform
  obtain ⟨c0, c1, c2, c3, c4, c5, cf⟩ := h.cells
  by_cases hY : Y = []
  · have e := hf1 hY
    subst hY
    clear h hf0 hf1 c0 c1 c2 c4 cf
    subst e
    go_enter Try.func32, Try.ntmps32
    go_wp2_with fail
    go_ret
    exact ⟨rfl, rfl⟩
  · obtain ⟨y, hy⟩ : ∃ y, Y[0]? = some y := by
      cases Y with
      | nil => exact absurd rfl hY
      | cons y Y => exact ⟨y, rfl⟩
    obtain ⟨g, rfl, _, hnc, q0, _⟩ := yq_at (v := vW) h.ot hy
    have e := hf0 y hy
    have e2 := (h.yk y (List.mem_of_getElem? hy)).1
    rw [e2, e, Nat.zero_mul] at q0
    have hl : 0 < Y.length := (List.getElem?_eq_some_iff.1 hy).1
    have hl2 : (0 : Int) < Y.length := by omega
    clear h hf0 hf1 c0 c1 c2 c4 c5 cf hY hy e e2
    go_enter Try.func32, Try.ntmps32
    go_wp2_with fail
    go_ret
    exact ⟨rfl, rfl⟩
end
end Go.Proofs.Yticjeknadddhoaa

namespace Go.Proofs.Yticjeknadddhoaa
set_option maxRecDepth 100000
set_option linter.unusedVariables false
open Go.RowKit

theorem gin (ns : List Int) : gflat RIN ns = ns.map (Value.int .i64) := by
  unfold gflat
  induction ns with
  | nil => rfl
  | cons p ps ih => exact congrArg (List.cons (Value.int .i64 p)) ih
theorem in_at {w : World} {a : Option Addr} {c n k : Nat} {M : List Int} {m : Int} (h : OwN w (.slice a n c) M) (hk : M[k]? = some m) : ∃ g, a = some ⟨g, 0, none⟩ ∧ n = M.length ∧ n ≤ c ∧ w.cell? ⟨g, k, none⟩ = some (.int .i64 m) ∧ w.frozen? ⟨g, k, none⟩ = false := by
  obtain ⟨hk', rfl⟩ := List.getElem?_eq_some_iff.1 hk
  unfold OwN at h
  have h0 := h
  rcases h.2 with ⟨h4, h5⟩ | ⟨g, cap, cur, h4, _, hg, hnc, _, hcs, htake⟩
  · omega
  · simp only [Value.slice.injEq] at h4
    obtain ⟨rfl, rfl, rfl⟩ := h4
    have h1 := World.ownsRow.cellAt h0 k (by omega)
    rw [gin, List.getElem?_map, hk] at h1
    exact ⟨g, rfl, rfl, hnc, h1, World.ownsRow.frozenAt h0 k⟩
theorem OwN.set {w : World} {g cap n a : Nat} {R : List Int} (h : OwN w (.slice (some ⟨g, 0, none⟩) n cap) R) (p : Int) : OwN (w.setCell ⟨g, a, none⟩ (.int .i64 p)) (.slice (some ⟨g, 0, none⟩) n cap) (R.set a p) := by
  unfold OwN at h ⊢
  have hn : n = R.length := by
    obtain ⟨a, c, e⟩ := own_form h
    simp only [Value.slice.injEq] at e
    exact e.2.1
  subst hn
  have := (World.ownsRow.stored h a (.int .i64 p)).1
  rw [gin, List.length_set]
  rw [gin] at this
  rw [List.map_set]
  exact this
theorem xag_no {s : Sd} {M : List Int} (hM : s.L.map Prod.snd = M) {k : Nat} {m : Int} (hk : M[k]? = some m) (h : s.tries ≤ m) : agB s = false := by
  unfold agB
  rw [List.all_eq_false]
  rw [← hM] at hk
  rw [List.getElem?_map] at hk
  cases hl : s.L[k]? with
  | none => rw [hl] at hk; cases hk
  | some e =>
    rw [hl] at hk
    have e2 : e.2 = m := by cases hk; rfl
    exact ⟨e, List.mem_of_getElem? hl, by simp; omega⟩
theorem xag_yes {s : Sd} {M : List Int} (hM : s.L.map Prod.snd = M) (h : ∀ (k : Nat) (m : Int), M[k]? = some m → m < s.tries) : agB s = true := by
  unfold agB
  rw [List.all_eq_true]
  intro e he
  obtain ⟨k, hk, rfl⟩ := List.mem_iff_getElem.1 he
  exact decide_eq_true (h k s.L[k].2 (by rw [← hM, List.getElem?_map, List.getElem?_eq_getElem hk]; rfl))
theorem xag_end {s : Sd} {M : List Int} {Y : Ys} (hb : agB s = true) (hM : s.L.map Prod.snd = M) (hY : s.out = Y.map Prod.snd) : (agS s).L.map Prod.snd = M.map (· + 1) ∧ (agS s).out = Y.map Prod.snd ∧ (agS s).W = s.W ∧ (agS s).nx = s.nx ∧ (agS s).win = s.win ∧ (agS s).tries = s.tries := by
  refine ⟨?_, by rw [out_again]; exact hY, ?_⟩
  · unfold agS
    rw [if_pos hb, ← hM]
    show (s.L.map _).map Prod.snd = _
    rw [List.map_map, List.map_map]
    rfl
  · unfold agS
    rw [if_pos hb]
    exact ⟨rfl, rfl, rfl, rfl⟩
theorem incm {M : List Int} {k : Nat} {m : Int} (hm : M[k]? = some m) : ((M.take k).map (· + 1) ++ M.drop k)[k]? = some m ∧ ((M.take k).map (· + 1) ++ M.drop k).length = M.length ∧ ((M.take k).map (· + 1) ++ M.drop k).set k (m + 1) = (M.take (k + 1)).map (· + 1) ++ M.drop (k + 1) := by
  obtain ⟨hk, rfl⟩ := List.getElem?_eq_some_iff.1 hm
  have hl : ((M.take k).map (· + 1)).length = k := by rw [List.length_map, List.length_take]; omega
  refine ⟨?_, by rw [List.length_append, hl, List.length_drop]; omega, ?_⟩
  · rw [List.getElem?_append_right (by omega), hl, Nat.sub_self, List.getElem?_drop, Nat.add_zero, List.getElem?_eq_getElem hk]
  · rw [List.set_append_right _ _ (by omega), hl, Nat.sub_self, List.drop_eq_getElem_cons hk, List.set_cons_zero, List.take_succ_eq_append_getElem hk, List.map_append, List.append_assoc]
    rfl
section
variable {w : World} {K : Nat → Prop} {b : Nat} {s s' : Sd} {Y : Ys} {M : List Int} {vW vO vS : Value}
/-- Another sender of the same numbers and of the same that waits. -/
theorem XZ.same (h : XZ w K b s Y M vW vO vS) (h1 : s'.W = s.W) (h2 : s'.nx = s.nx) (h3 : s'.win = s.win) (h4 : s'.tries = s.tries) : XZ w K b s' Y M vW vO vS :=
  ⟨h.lt, h.fb, by rw [h2, h3, h4]; exact h.hp, by rw [h1]; exact h.wt, h.wf, h.ot, h.of, h.st, h.sf, h.yk⟩
set_option maxHeartbeats 16000000 in
theorem xagain_any (h : XZ w K b s Y M vW vO vS) (hY : s.out = Y.map Prod.snd) (hM : s.L.map Prod.snd = M) (hok : SdOk s) : Calls Try.prog 17 #[.pointer (some ⟨b, 0, none⟩)] w fun e w' => ∃ r, e = .returned (.tuple #[r, .bool (agB s)]) ∧ Chg K w w' ∧ (XZ w' K b (agS s) Y ((agS s).L.map Prod.snd) vW vO vS ∧ (agS s).out = Y.map Prod.snd) ∧ Bts w' r (agL s) := by
  obtain ⟨aS, cS, rfl⟩ := h.sform
  have hml : M.length ≤ 16 := by
    have h1 := out_le hok
    have h2 := hok.win
    unfold Sd.out at h1
    rw [← hM, List.length_map]
    rw [List.length_map] at h1
    omega
  have hmv : ∀ (i : Nat) (m : Int), M[i]? = some m → 1 ≤ m ∧ m ≤ 100 := fun i m hm => by
    rw [← hM, List.getElem?_map] at hm
    cases hl : s.L[i]? with
    | none => rw [hl] at hm; cases hm
    | some e =>
      rw [hl] at hm
      have e2 : e.2 = m := by cases hm; rfl
      have h1 := hok.sent e (List.mem_of_getElem? hl)
      have h2 := hok.tries
      omega
  have HXZ := Lib.hid h
  have HYY := Lib.hid hY
  have HMM := Lib.hid hM
  have HOK := Lib.hid hok
  have HMV := Lib.hid hmv
  clear h hok hY hM hmv
  go_enter Try.func17, Try.ntmps17
  go_wp2_with fail
  go_loopw [4] (fun iv wr => ∃ k : Nat, k ≤ M.length ∧ iv = .int .i64 k ∧ Hid (Below w.heap.size w wr) ∧ Hid (∀ (i : Nat) (m : Int), i < k → M[i]? = some m → m < s.tries)) (fun i _ => M.length - (intOf i).toNat)
  case atStart => exact ⟨0, Nat.zero_le _, rfl, Below.refl _ _, fun i z hi => absurd hi (Nat.not_lt_zero i)⟩
  case round =>
    obtain ⟨k, hk, rfl, HB, HN⟩ := hrel
    have hr := HXZ.out.below HB.out
    obtain ⟨c0, c1, c2, c3, c4, c5, cf⟩ := hr.cells
    by_cases hlt : k < M.length
    · obtain ⟨m, hm⟩ : ∃ m, M[k]? = some m := ⟨_, List.getElem?_eq_getElem hlt⟩
      obtain ⟨g, hga, -, hnc, q0, qf⟩ := in_at hr.st hm
      have HM := Lib.hid hm
      have hltz : (k : Int) < M.length := by omega
      clear c0 c2 c3 c5 cf hr hm qf
      subst hga
      by_cases ht : s.tries ≤ m
      · have hag : Hid (agB s = false) := xag_no HMM.out HM.out ht
        have hd : decide (s.tries ≤ m) = true := decide_eq_true ht
        clear ht
        go_wp2_with fail
        go_quiet (fail)
        go_wp2_with fail
        go_ret2
        have hal : agL s = [] := by unfold agL; rw [hag.out]; rfl
        have has : agS s = s := by unfold agS; rw [hag.out]; rfl
        rw [hag.out, hal, has]
        have hb9 : Below w.heap.size w (wr.drewN nq) := HB.out.trans ⟨rfl, rfl, rfl, Nat.le_refl _, fun _ _ => rfl⟩
        exact ⟨_, rfl, chg0 hb9, ⟨by rw [HMM.out]; exact HXZ.out.below hb9, HYY.out⟩, .inl ⟨none, 0, rfl, rfl⟩⟩
      · have hd : decide (s.tries ≤ m) = false := decide_eq_false ht
        have HT : Hid (m < s.tries) := by show _ < _; omega
        clear ht
        go_wp2_with fail
        go_quiet (fail)
        go_wp2_with fail
        go_roundw
        case rel => exact ⟨k + 1, by omega, by go_num, HB.out.trans ⟨rfl, rfl, rfl, Nat.le_refl _, fun _ _ => rfl⟩, fun i z hi hz => by
          by_cases h9 : i = k
          · subst h9
            have e := hz.symm.trans HM.out
            cases e
            exact HT.out
          · exact HN.out i z (by omega) hz⟩
        case measure => simp [intOf]; omega
    · obtain rfl : k = M.length := by omega
      have hag : Hid (agB s = true) := xag_yes HMM.out (fun i z hz => HN.out i z (List.getElem?_eq_some_iff.1 hz).1 hz)
      have HR := Lib.hid hr
      clear c0 c1 c2 c3 c5 cf hr HN
      go_wp2_with fail
      clear c4
      obtain ⟨wo, hwo⟩ : ∃ wo, wo = wr := ⟨_, rfl⟩
      subst hwo
      go_loopw [5] (fun iv wr => ∃ (k : Nat), k ≤ M.length ∧ iv = .int .i64 k ∧ Hid (Chg K w wr) ∧ Hid (XZ wr K b s Y ((M.take k).map (· + 1) ++ M.drop k) vW vO (.slice aS M.length cS))) (fun i _ => M.length - (intOf i).toNat)
      case atStart =>
        refine ⟨0, Nat.zero_le _, rfl, (chg0 HB.out : Chg K w wo), ?_⟩
        show XZ _ _ _ _ _ _ _ _ _
        have e : (M.take 0).map (· + 1) ++ M.drop 0 = M := rfl
        rw [e]
        exact HR.out
      case round =>
        obtain ⟨k, hk, rfl, HC, HP⟩ := hrel
        clear HR HB
        obtain ⟨c0, c1, c2, c3, c4, c5, cf⟩ := HP.out.cells
        by_cases hlt : k < M.length
        · obtain ⟨m, hm⟩ : ∃ m, M[k]? = some m := ⟨_, List.getElem?_eq_getElem hlt⟩
          obtain ⟨i1, i2, i3⟩ := incm hm
          obtain ⟨g, hga, -, hnc, q0, qf⟩ := in_at HP.out.st i1
          have hm2 := HMV.out k m hm
          have hwt : IntKind.i64.wrap (m + 1) = m + 1 := by rw [IntKind.wrap_i64]; omega
          have hltz : (k : Int) < M.length := by omega
          have HI3 := Lib.hid i3
          subst hga
          have hgl := HP.out.lt g (HP.out.sf g rfl)
          have hbl := HP.out.lt b HP.out.fb
          have kc : ∀ w', Below wr.heap.size wr w' → w'.cell? ⟨b, 4, none⟩ = some (.slice (some ⟨g, 0, none⟩) M.length cS) ∧ w'.cell? ⟨g, k, none⟩ = some (.int .i64 m) := fun w' h => ⟨(h.cell (p := ⟨b, 4, none⟩) hbl).trans c4, (h.cell (p := ⟨g, k, none⟩) hgl).trans q0⟩
          have HQ0 := Lib.hid (And.intro q0 qf)
          clear c0 c1 c2 c3 c5 cf hm hm2 i1 i2 i3 q0 qf
          go_upto_region 9 with (fail)
          clear c4
          refine T3.wp_region_tail (C := fun w' => Below wr.heap.size wr w') (X := fun _ w w' => Below w.heap.size w w') (n := 58) 14 (by kernel_rfl) (by kernel_rfl) (by kernel_rfl) (by kernel_rfl) rfl (fun _ w => Below.refl _ w) (Below.refl _ _).drew ?_
          simp only [List.take_succ_cons, List.take_zero, List.drop_succ_cons, List.drop_zero]
          refine T3.w_is (fun _ w => Below.refl _ w) rfl _ (.inl rfl) (fun ρ w hC hc hfn hf => by have e0 : ρ (.tmp 0) = _ := hf 0 (by decide); (conv => lhs; simp [execOp, go_sem, hc, e0])) ?_
          refine T3.w_is (fun _ w => Below.refl _ w) rfl _ (.inl rfl) (fun ρ w hC hc hfn hf => by have e37 : ρ (.tmp 37) = _ := hf 37 (by decide); (conv => lhs; simp [execOp, go_sem, hc, e37])) ?_
          refine T3.w_is (fun _ w => Below.refl _ w) rfl _ (.inl rfl) (fun ρ w hC hc hfn hf => by have e38 : ρ (.tmp 38) = _ := hf 38 (by decide); (conv => lhs; simp [execOp, go_sem, hc, e38])) ?_
          refine T3.w_is (fun _ w => Below.refl _ w) rfl _ (.inl rfl) (fun ρ w hC hc hfn hf => by have e39 : ρ (.tmp 39) = _ := hf 39 (by decide); (conv => lhs; simp [execOp, go_sem, hc, e39, kc w hC])) ?_
          refine T3.w_is (fun _ w => Below.refl _ w) rfl _ (.inl rfl) (fun ρ w hC hc hfn hf => by have e5 : ρ (.tmp 5) = _ := hf 5 (by decide); (conv => lhs; simp [execOp, go_sem, hc, e5])) ?_
          refine T3.w_is (fun _ w => Below.refl _ w) rfl _ (.inl rfl) (fun ρ w hC hc hfn hf => by have e0 : ρ (.tmp 0) = _ := hf 0 (by decide); (conv => lhs; simp [execOp, go_sem, hc, e0])) ?_
          refine T3.w_is (fun _ w => Below.refl _ w) rfl _ (.inl rfl) (fun ρ w hC hc hfn hf => by have e42 : ρ (.tmp 42) = _ := hf 42 (by decide); (conv => lhs; simp [execOp, go_sem, hc, e42])) ?_
          refine T3.w_is (fun _ w => Below.refl _ w) rfl _ (.inl rfl) (fun ρ w hC hc hfn hf => by have e43 : ρ (.tmp 43) = _ := hf 43 (by decide); (conv => lhs; simp [execOp, go_sem, hc, e43])) ?_
          refine T3.w_is (fun _ w => Below.refl _ w) rfl _ (.inl rfl) (fun ρ w hC hc hfn hf => by have e44 : ρ (.tmp 44) = _ := hf 44 (by decide); (conv => lhs; simp [execOp, go_sem, hc, e44, kc w hC])) ?_
          refine T3.w_is (fun _ w => Below.refl _ w) rfl _ (.inl rfl) (fun ρ w hC hc hfn hf => by have e5 : ρ (.tmp 5) = _ := hf 5 (by decide); (conv => lhs; simp [execOp, go_sem, hc, e5])) ?_
          refine T3.w_is (fun _ w => Below.refl _ w) rfl _ (.inl rfl) (fun ρ w hC hc hfn hf => by have e45 : ρ (.tmp 45) = _ := hf 45 (by decide); have e46 : ρ (.tmp 46) = _ := hf 46 (by decide); (conv => lhs; simp [execOp, go_sem, hc, e45, e46, hltz])) ?_
          refine T3.w_is (fun _ w => Below.refl _ w) rfl _ (.inl rfl) (fun ρ w hC hc hfn hf => by have e47 : ρ (.tmp 47) = _ := hf 47 (by decide); (conv => lhs; simp [execOp, go_sem, hc, e47, kc w hC])) ?_
          refine T3.w_is (fun _ w => Below.refl _ w) rfl _ (.inl rfl) (fun ρ w hC hc hfn hf => by have e48 : ρ (.tmp 48) = _ := hf 48 (by decide); (conv => lhs; simp [execOp, go_sem, hc, e48, hwt])) ?_
          refine T3.w_is (fun _ w => Below.refl _ w) rfl _ (.inl rfl) (fun ρ w hC hc hfn hf => by have e40 : ρ (.tmp 40) = _ := hf 40 (by decide); have e41 : ρ (.tmp 41) = _ := hf 41 (by decide); (conv => lhs; simp [execOp, go_sem, hc, e40, e41, hltz])) ?_
          intro A V5 hC hn hd hf
          have y0 : A.eval (.tmp 0) = _ := Eq.trans (hf 0) (by conv => lhs; simp [go_sem])
          have y1 : A.eval (.tmp 1) = _ := Eq.trans (hf 1) (by conv => lhs; simp [go_sem])
          have y2 : A.eval (.tmp 2) = _ := Eq.trans (hf 2) (by conv => lhs; simp [go_sem])
          have y3 : A.eval (.tmp 3) = _ := Eq.trans (hf 3) (by conv => lhs; simp [go_sem])
          have y4 : A.eval (.tmp 4) = _ := Eq.trans (hf 4) (by conv => lhs; simp [go_sem])
          have y5 : A.eval (.tmp 5) = _ := Eq.trans (hf 5) (by conv => lhs; simp [go_sem])
          have y6 : A.eval (.tmp 6) = _ := Eq.trans (hf 6) (by conv => lhs; simp [go_sem])
          have y7 : A.eval (.tmp 7) = _ := Eq.trans (hf 7) (by conv => lhs; simp [go_sem])
          have y8 : A.eval (.tmp 8) = _ := Eq.trans (hf 8) (by conv => lhs; simp [go_sem])
          have y9 : A.eval (.tmp 9) = _ := Eq.trans (hf 9) (by conv => lhs; simp [go_sem])
          have y10 : A.eval (.tmp 10) = _ := Eq.trans (hf 10) (by conv => lhs; simp [go_sem])
          have y11 : A.eval (.tmp 11) = _ := Eq.trans (hf 11) (by conv => lhs; simp [go_sem])
          have y12 : A.eval (.tmp 12) = _ := Eq.trans (hf 12) (by conv => lhs; simp [go_sem])
          have y13 : A.eval (.tmp 13) = _ := Eq.trans (hf 13) (by conv => lhs; simp [go_sem])
          have y14 : A.eval (.tmp 14) = _ := Eq.trans (hf 14) (by conv => lhs; simp [go_sem])
          have y15 : A.eval (.tmp 15) = _ := Eq.trans (hf 15) (by conv => lhs; simp [go_sem])
          have y16 : A.eval (.tmp 16) = _ := Eq.trans (hf 16) (by conv => lhs; simp [go_sem])
          have y17 : A.eval (.tmp 17) = _ := Eq.trans (hf 17) (by conv => lhs; simp [go_sem])
          have y18 : A.eval (.tmp 18) = _ := Eq.trans (hf 18) (by conv => lhs; simp [go_sem])
          have y19 : A.eval (.tmp 19) = _ := Eq.trans (hf 19) (by conv => lhs; simp [go_sem])
          have y20 : A.eval (.tmp 20) = _ := Eq.trans (hf 20) (by conv => lhs; simp [go_sem])
          have y21 : A.eval (.tmp 21) = _ := Eq.trans (hf 21) (by conv => lhs; simp [go_sem])
          have y22 : A.eval (.tmp 22) = _ := Eq.trans (hf 22) (by conv => lhs; simp [go_sem])
          have y23 : A.eval (.tmp 23) = _ := Eq.trans (hf 23) (by conv => lhs; simp [go_sem])
          have y24 : A.eval (.tmp 24) = _ := Eq.trans (hf 24) (by conv => lhs; simp [go_sem])
          have y25 : A.eval (.tmp 25) = _ := Eq.trans (hf 25) (by conv => lhs; simp [go_sem])
          have y26 : A.eval (.tmp 26) = _ := Eq.trans (hf 26) (by conv => lhs; simp [go_sem])
          have y27 : A.eval (.tmp 27) = _ := Eq.trans (hf 27) (by conv => lhs; simp [go_sem])
          have y28 : A.eval (.tmp 28) = _ := Eq.trans (hf 28) (by conv => lhs; simp [go_sem])
          have y29 : A.eval (.tmp 29) = _ := Eq.trans (hf 29) (by conv => lhs; simp [go_sem])
          have y30 : A.eval (.tmp 30) = _ := Eq.trans (hf 30) (by conv => lhs; simp [go_sem])
          have y31 : A.eval (.tmp 31) = _ := Eq.trans (hf 31) (by conv => lhs; simp [go_sem])
          have y32 : A.eval (.tmp 32) = _ := Eq.trans (hf 32) (by conv => lhs; simp [go_sem])
          have y33 : A.eval (.tmp 33) = _ := Eq.trans (hf 33) (by conv => lhs; simp [go_sem])
          have y34 : A.eval (.tmp 34) = _ := Eq.trans (hf 34) (by conv => lhs; simp [go_sem])
          have y35 : A.eval (.tmp 35) = _ := Eq.trans (hf 35) (by conv => lhs; simp [go_sem])
          have y36 : A.eval (.tmp 36) = _ := Eq.trans (hf 36) (by conv => lhs; simp [go_sem])
          have y37 : A.eval (.tmp 37) = _ := hf 37
          have y38 : A.eval (.tmp 38) = _ := hf 38
          have y39 : A.eval (.tmp 39) = _ := hf 39
          have y40 : A.eval (.tmp 40) = _ := hf 40
          have y41 : A.eval (.tmp 41) = _ := hf 41
          have y42 : A.eval (.tmp 42) = _ := hf 42
          have y43 : A.eval (.tmp 43) = _ := hf 43
          have y44 : A.eval (.tmp 44) = _ := hf 44
          have y45 : A.eval (.tmp 45) = _ := hf 45
          have y46 : A.eval (.tmp 46) = _ := hf 46
          have y47 : A.eval (.tmp 47) = _ := hf 47
          have y48 : A.eval (.tmp 48) = _ := hf 48
          have y49 : A.eval (.tmp 49) = _ := hf 49
          have y50 : A.eval (.tmp 50) = _ := hf 50
          have y51 : A.eval (.tmp 51) = _ := Eq.trans (hf 51) (by conv => lhs; simp [go_sem])
          have y52 : A.eval (.tmp 52) = _ := Eq.trans (hf 52) (by conv => lhs; simp [go_sem])
          have y53 : A.eval (.tmp 53) = _ := Eq.trans (hf 53) (by conv => lhs; simp [go_sem])
          have y54 : A.eval (.tmp 54) = _ := Eq.trans (hf 54) (by conv => lhs; simp [go_sem])
          have y55 : A.eval (.tmp 55) = _ := Eq.trans (hf 55) (by conv => lhs; simp [go_sem])
          have y56 : A.eval (.tmp 56) = _ := Eq.trans (hf 56) (by conv => lhs; simp [go_sem])
          have y57 : A.eval (.tmp 57) = _ := Eq.trans (hf 57) (by conv => lhs; simp [go_sem])
          clear hf
          have hA := frame_eq hn
          rw [show List.range 58 = [0, 1, 2, 3, 4, 5, 6, 7, 8, 9, 10, 11, 12, 13, 14, 15, 16, 17, 18, 19, 20, 21, 22, 23, 24, 25, 26, 27, 28, 29, 30, 31, 32, 33, 34, 35, 36, 37, 38, 39, 40, 41, 42, 43, 44, 45, 46, 47, 48, 49, 50, 51, 52, 53, 54, 55, 56, 57] from rfl, hd] at hA
          simp only [List.map_cons, List.map_nil, y0, y1, y2, y3, y4, y5, y6, y7, y8, y9, y10, y11, y12, y13, y14, y15, y16, y17, y18, y19, y20, y21, y22, y23, y24, y25, y26, y27, y28, y29, y30, y31, y32, y33, y34, y35, y36, y37, y38, y39, y40, y41, y42, y43, y44, y45, y46, y47, y48, y49, y50, y51, y52, y53, y54, y55, y56, y57] at hA
          clear y0 y1 y2 y3 y4 y5 y6 y7 y8 y9 y10 y11 y12 y13 y14 y15 y16 y17 y18 y19 y20 y21 y22 y23 y24 y25 y26 y27 y28 y29 y30 y31 y32 y33 y34 y35 y36 y37 y38 y39 y40 y41 y42 y43 y44 y45 y46 y47 y48 y49 y50 y51 y52 y53 y54 y55 y56 y57
          clear hn hd
          subst hA
          have hp5 := HP.out.below hC
          have hst := hp5.st.set (a := k) (m + 1)
          rw [HI3.out] at hst
          have hcs : Chg (fun x => (Value.slice (some ⟨g, 0, none⟩) M.length cS).ownBlock = some x) V5 (V5.setCell ⟨g, k, none⟩ (.int .i64 (m + 1))) := (chg_pt V5 g k _).mono (fun x _ e => by rw [e]; rfl)
          have HPN := Lib.hid (hp5.sput hcs hst)
          have HCN : Hid (Chg K w (V5.setCell ⟨g, k, none⟩ (.int .i64 (m + 1)))) := (HC.out.trans (G := fun _ => False) (chg0 hC) (fun _ _ e => e.elim)).setCell (.inl (hp5.sf g rfl)) _
          have q0 := (kc V5 hC).2
          have qf : V5.frozen? ⟨g, k, none⟩ = false := (hC.frozen (p := ⟨g, k, none⟩) hgl).trans HQ0.out.2
          clear hp5 hst hcs hC kc
          go_wp2_with fail
          go_roundw
          case rel => exact ⟨k + 1, by omega, by go_num, HCN.out, HPN.out⟩
          case measure => simp [intOf]; omega
        · obtain rfl : k = M.length := by omega
          have e1 : (M.take M.length).map (· + 1) ++ M.drop M.length = M.map (· + 1) := by simp
          obtain ⟨t1, t2, t3, t4, t5, t6⟩ := xag_end hag.out HMM.out HYY.out
          have hP := HP.out
          rw [e1] at hP
          have hP2 := hP.same (s' := agS s) t3 t4 t5 t6
          obtain ⟨aO, cO, rfl⟩ := hP2.oform
          obtain ⟨us, hus⟩ : ∃ us, Y.map Prod.fst = us := ⟨_, rfl⟩
          have hul : us.length = Y.length := by rw [← hus, List.length_map]
          have hyl : Y.length ≤ 16 := by
            have h1 := out_le HOK.out
            have h2 := HOK.out.win
            rw [HYY.out, List.length_map] at h1
            omega
          have hot : OwQ wr (.slice aO Y.length cO) us := hus ▸ hP2.ot
          obtain ⟨r, w5, hr5, ho5, hg5, -⟩ := run_gapps2 RBT wr 30 0 (.slice none 0 0) ([] : List Bq) (gown_nil (R := RBT) wr 0) 0 (.slice aO Y.length cO) us hot (show 0 + us.length ≤ 3000 by omega) (Nat.zero_le _)
          have ho6 : OwQ w5 r us := ho5
          have hb5 : Below wr.heap.size wr w5 := ⟨hg5.os, hg5.tape, hg5.output, hg5.size, fun k hk => hg5.block k (by omega) (fun e => by cases e)⟩
          have hbts : Bts w5 r (agS s).out := by
            rw [t2]
            exact yk_bts (hus ▸ ho6) ((hP2.below hb5).yk)
          have hal : agL s = (agS s).out := by unfold agL; rw [if_pos hag.out, out_again]
          obtain ⟨a9, c9, rfl⟩ := own_form ho6
          rw [hul] at hr5 hbts
          have HBT := Lib.hid hbts
          have HP9 := Lib.hid (And.intro (hP2.below hb5) (And.intro t2 t1))
          have HC9 : Hid (Chg K w w5) := HC.out.trans (G := fun _ => False) (chg0 hb5) (fun _ _ e => e.elim)
          have HAL := Lib.hid hal
          clear c0 c1 c2 c5 cf e1 t1 t2 t3 t4 t5 t6 hP hP2 hus hul hot ho5 hg5 ho6 hb5 hbts hal HP hyl
          go_wp2_with (at_builtin; refine app_go rfl (.tmp 51) (.tmp 55) 30 rfl _ _ _ _ rfl rfl hr5 ?_)
          go_ret2
          rw [hag.out, HAL.out]
          exact ⟨.slice a9 Y.length c9, rfl, HC9.out, ⟨by rw [HP9.out.2.2]; exact HP9.out.1, HP9.out.2.1⟩, HBT.out⟩
end
end Go.Proofs.Yticjeknadddhoaa

namespace Go.Proofs.Yticjeknadddhoaa
set_option maxRecDepth 100000
set_option linter.unusedVariables false
open Go.RowKit

abbrev OwQS (w : World) (S : Nat) (v : Value) (us : List Bq) : Prop := w.ownsRow S 55 2 v us.length (gflat RBT us)
abbrev OwNS (w : World) (S : Nat) (v : Value) (ns : List Int) : Prop := w.ownsRow S 3 1 v ns.length (gflat RIN ns)
theorem OwQS.to {w : World} {S : Nat} {v : Value} {us : List Bq} (h : OwQS w S v us) : OwQ w v us := gown_mono h (Nat.zero_le _)
theorem OwNS.to {w : World} {S : Nat} {v : Value} {ns : List Int} (h : OwNS w S v ns) : OwN w v ns := gown_mono h (Nat.zero_le _)
theorem run_q (w : World) (S : Nat) (v : Value) (us : List Bq) (hown : OwQS w S v us) (y : Bq) (hl : us.length ≤ 3000) (hS : S ≤ w.heap.size) {ty : TypeId} :
    ∃ g cap w', (Builtin.append_ #[30, 30] ty #[v, .slice (some ⟨w.heap.size, 0, none⟩) 1 1]).run Try.prog (w.alloc (.cells #[.int .i64 y.1, slq y] 55)) = .ok (.slice (some ⟨g, 0, none⟩) (us.length + 1) cap) w' ∧ OwQS w' S (.slice (some ⟨g, 0, none⟩) (us.length + 1) cap) (us ++ [y]) ∧ Below S w w' ∧ Chg (fun k => v.ownBlock = some k) w w' ∧ (v.ownBlock = some g ∨ w.heap.size ≤ g) := by
  have hb : Below w.heap.size w (w.alloc (.cells #[.int .i64 y.1, slq y] 55)) := (Below.refl _ w).alloc (Nat.le_refl _) _
  obtain ⟨g, cap, w', h1, h2, h3, _, h5⟩ := run_gappr RBT (w.alloc (.cells #[.int .i64 y.1, slq y] 55)) S v us (gown_below hown hb) w.heap.size y (gc_alloc RBT w y _ rfl 55) hl (Nat.le_trans hS hb.size) (ty := ty)
  exact ⟨g, cap, w', h1, h2, (hb.mono hS).grown h3 (Nat.le_trans hS hb.size) (fun k hk => (hown.lt k hk).1), (chg0 hb : Chg (fun k => v.ownBlock = some k) w _).trans (chg_grown h3) (fun _ _ e => e), h5.imp (fun e => e) (fun e => Nat.le_trans hb.size e)⟩
theorem run_n (w : World) (S : Nat) (v : Value) (us : List Int) (hown : OwNS w S v us) (y : Int) (hl : us.length ≤ 3000) (hS : S ≤ w.heap.size) {ty : TypeId} :
    ∃ g cap w', (Builtin.append_ #[31, 31] ty #[v, .slice (some ⟨w.heap.size, 0, none⟩) 1 1]).run Try.prog (w.alloc (.cells #[.int .i64 y] 3)) = .ok (.slice (some ⟨g, 0, none⟩) (us.length + 1) cap) w' ∧ OwNS w' S (.slice (some ⟨g, 0, none⟩) (us.length + 1) cap) (us ++ [y]) ∧ Below S w w' ∧ Chg (fun k => v.ownBlock = some k) w w' ∧ (v.ownBlock = some g ∨ w.heap.size ≤ g) := by
  have hb : Below w.heap.size w (w.alloc (.cells #[.int .i64 y] 3)) := (Below.refl _ w).alloc (Nat.le_refl _) _
  obtain ⟨g, cap, w', h1, h2, h3, _, h5⟩ := run_gappr RIN (w.alloc (.cells #[.int .i64 y] 3)) S v us (gown_below hown hb) w.heap.size y (gc_alloc RIN w y _ rfl 3) hl (Nat.le_trans hS hb.size) (ty := ty)
  exact ⟨g, cap, w', h1, h2, (hb.mono hS).grown h3 (Nat.le_trans hS hb.size) (fun k hk => (hown.lt k hk).1), (chg0 hb : Chg (fun k => v.ownBlock = some k) w _).trans (chg_grown h3) (fun _ _ e => e), h5.imp (fun e => e) (fun e => Nat.le_trans hb.size e)⟩
theorem xgot_far {s : Sd} {a : Ak} (h : ¬ far (fstN s) a.2.2.1 ≤ far (fstN s) s.nx) : gtS s a = s ∧ gtN s a = 0 := by
  have e : gtS s a = s := gtS_no (fun g => h g.2)
  exact ⟨e, by unfold gtN; rw [e]; omega⟩
theorem got_noone {s : Sd} {a : Ak} (h : ¬ AkOne a) : gtS s a = s ∧ gtN s a = 0 := by
  have e : gtS s a = s := gtS_no (fun g => h g.1)
  exact ⟨e, by unfold gtN; rw [e]; omega⟩
/-- An ack in a block of its own. -/
def AkB (w : World) (g : Nat) (a : Ak) : Prop := w.heap[g]? = some (.cells #[.int .i64 a.1, .int .i64 a.2.1, .int .i64 a.2.2.1, .int .i64 a.2.2.2] 42)
theorem AkB.chg {w w' : World} {G : Nat → Prop} {g : Nat} {a : Ak} (h : AkB w g a) (hc : Chg G w w') (hg : ¬ G g) : AkB w' g a := (hc.block g (some_lt h) hg).trans h
theorem AkB.below {w w' : World} {g : Nat} {a : Ak} (h : AkB w g a) (hb : Below w.heap.size w w') : AkB w' g a := (hb.block g (some_lt h)).trans h
theorem AkB.blk {w : World} {g : Nat} {a : Ak} (h : AkB w g a) : BlkT w g 42 := ⟨_, _, h⟩
theorem AkB.c4 {w : World} {g : Nat} {a : Ak} (h : AkB w g a) : w.cell? ⟨g, 0, none⟩ = some (.int .i64 a.1) ∧ w.cell? ⟨g, 1, none⟩ = some (.int .i64 a.2.1) ∧ w.cell? ⟨g, 2, none⟩ = some (.int .i64 a.2.2.1) ∧ w.cell? ⟨g, 3, none⟩ = some (.int .i64 a.2.2.2) := by
  have h' : w.heap[g]? = some (.cells #[.int .i64 a.1, .int .i64 a.2.1, .int .i64 a.2.2.1, .int .i64 a.2.2.2] 42) := h
  refine ⟨?_, ?_, ?_, ?_⟩ <;> simp [World.cell?, h']
/-- What is kept of the first k. -/
def kpL (a : Ak) (s : Sd) (k : Nat) : List (Bt × Int) := (s.L.take k).filter (kpt a)
theorem kpL_succ (a : Ak) {s : Sd} {k : Nat} {e : Bt × Int} (he : s.L[k]? = some e) : kpL a s (k + 1) = kpL a s k ++ if kpt a e = true then [e] else [] := by
  obtain ⟨hk, rfl⟩ := List.getElem?_eq_some_iff.1 he
  unfold kpL
  rw [List.take_succ_eq_append_getElem hk, List.filter_append, List.filter_cons]
  rfl
theorem kpL_len (a : Ak) (s : Sd) (k : Nat) : (kpL a s k).length ≤ k := Nat.le_trans (List.length_filter_le _ _) (by rw [List.length_take]; omega)
theorem l_at {s : Sd} {Y : Ys} {M : List Int} (hY : s.out = Y.map Prod.snd) (hM : s.L.map Prod.snd = M) {k : Nat} (hk : k < Y.length) : ∃ y e, Y[k]? = some y ∧ s.L[k]? = some e ∧ y.2 = e.1 ∧ M[k]? = some e.2 ∧ M.length = Y.length ∧ s.L.length = Y.length := by
  have hl : s.L.length = Y.length := by
    have := congrArg List.length hY
    unfold Sd.out at this
    rw [List.length_map, List.length_map] at this
    exact this
  have h1 : Y[k]? = some Y[k] := List.getElem?_eq_getElem hk
  have h2 : s.L[k]? = some s.L[k] := List.getElem?_eq_getElem (by omega)
  have h3 := congrArg (fun l => l[k]?) hY
  unfold Sd.out at h3
  simp only [List.getElem?_map, h1, h2, Option.map_some, Option.some.injEq] at h3
  exact ⟨_, _, h1, h2, h3.symm, by rw [← hM, List.getElem?_map, h2]; rfl, by rw [← hM, List.length_map]; exact hl, hl⟩
section
variable {w : World} {K : Nat → Prop} {b : Nat} {s : Sd} {Y : Ys} {M : List Int} {vW vO vS : Value}
set_option maxHeartbeats 16000000 in
theorem xgot_any (a1 a2 a3 a4 : Int) (h : XZ w K b s Y M vW vO vS) (hY : s.out = Y.map Prod.snd) (hM : s.L.map Prod.snd = M) (hok : SdOk s) : Calls Try.prog 19 #[.pointer (some ⟨b, 0, none⟩), .agg #[.int .i64 a1, .int .i64 a2, .int .i64 a3, .int .i64 a4]] w fun e w' => e = .returned (.int .i64 (gtN s (a1, a2, a3, a4))) ∧ Chg K w w' ∧ ∃ K' Y' vO' vS', XZ w' K' b (gtS s (a1, a2, a3, a4)) Y' ((gtS s (a1, a2, a3, a4)).L.map Prod.snd) vW vO' vS' ∧ (gtS s (a1, a2, a3, a4)).out = Y'.map Prod.snd ∧ ∀ k, K' k → K k ∨ w.heap.size ≤ k := by
  obtain ⟨aO, cO, rfl⟩ := h.oform
  obtain ⟨aS, cS, rfl⟩ := h.sform
  have hyl : Y.length ≤ 16 := by
    have h1 := out_le hok
    have h2 := hok.win
    rw [hY, List.length_map] at h1
    omega
  obtain ⟨g0, hg0⟩ : ∃ g0, w.heap.size = g0 := ⟨_, rfl⟩
  obtain ⟨W1, hW1⟩ : ∃ W1, w.alloc (.cells #[.int .i64 a1, .int .i64 a2, .int .i64 a3, .int .i64 a4] 42) = W1 := ⟨_, rfl⟩
  have hb1 : Below w.heap.size w W1 := hW1 ▸ (Below.refl _ w).alloc (Nat.le_refl _) _
  have ha1 : AkB W1 g0 (a1, a2, a3, a4) := by rw [← hW1, ← hg0]; exact heap_alloc_new w _
  obtain ⟨f, hf⟩ : ∃ f, fstN s = f := ⟨_, rfl⟩
  have HF0 : Hid (∀ y, Y[0]? = some y → y.2.1 = f) := fun y hy => by rw [← hf]; exact (fst_y hY hy).symm
  have HF1 : Hid (Y = [] → s.nx = f) := fun hy => by rw [← hf]; exact (fst_n hY hy).symm
  have hx1 := h.below hb1
  have hbl := hx1.lt b hx1.fb
  have hnx := hx1.cells.2.2.2.2.2.1
  have kc : ∀ w', Below W1.heap.size W1 w' → (w'.cell? ⟨g0, 0, none⟩ = some (.int .i64 a1) ∧ w'.cell? ⟨g0, 1, none⟩ = some (.int .i64 a2) ∧ w'.cell? ⟨g0, 2, none⟩ = some (.int .i64 a3) ∧ w'.cell? ⟨g0, 3, none⟩ = some (.int .i64 a4)) ∧ w'.cell? ⟨b, 5, none⟩ = some (.int .i64 s.nx) := fun w' h => by
    have h4 := (ha1.below h).c4
    exact ⟨h4, (h.cell (p := ⟨b, 5, none⟩) hbl).trans hnx⟩
  have HX0 := Lib.hid h
  have HX1 := Lib.hid hx1
  have HY := Lib.hid hY
  have HM := Lib.hid hM
  have HW1 := Lib.hid hW1
  have HB1 := Lib.hid hb1
  have HG0 := Lib.hid hg0
  have HA1 := Lib.hid ha1
  have HFS := Lib.hid hf
  clear hW1 hb1 hg0 ha1 hx1 hY hM hf hbl hnx
  by_cases hone : AkOne (a1, a2, a3, a4)
  · have HONE := Lib.hid hone
    have HQT : Hid (true = true ↔ AkOne (a1, a2, a3, a4)) := ⟨fun _ => hone, fun _ => rfl⟩
    obtain ⟨Q, hQ⟩ : ∃ Q : Bool, Q = true := ⟨true, rfl⟩
    subst hQ
    have HQ := HQT
    go_enter Try.func19, Try.ntmps19
    go_upto_region 1 with (fail)
    rw [HW1.out]
    try simp only [HG0.out]
    refine wp_region_typed (C := fun w' => Below W1.heap.size W1 w') (X := fun w w' => Below w.heap.size w w') (n := 84) (by kernel_rfl) (by kernel_rfl) rfl (fun w => Below.refl _ w) (Below.refl _ _).drew ?_
    refine w_is (fun w => Below.refl _ w) _ (.inl rfl) (fun ρ w hC hc hfn hf => by have e3 : ρ (.tmp 3) = _ := hf 3 (by decide); (conv => lhs; simp [execOp, go_sem, hc, e3, kc w hC])) ?_
    refine w_call (Is _) (fun _ _ _ h _ => h) 41 (.inl rfl) (fun ρ w hC hc hfn hf => by have e9 : ρ (.tmp 9) = _ := hf 9 (by decide); exact ⟨_, by (conv => lhs; simp [execOp, resolve, invoke, go_sem, hc, hfn, e9]), tc_below hC (rone_fix a1 a2 a3 a4 true HQ.out w)⟩) ?_
    refine w_is (fun w => Below.refl _ w) _ (.inl rfl) (fun ρ w hC hc hfn hf => by have e10 : ρ (.tmp 10) = _ := hf 10 (by decide); (conv => lhs; simp [execOp, go_sem, hc, e10])) ?_
    refine w_is (fun w => Below.refl _ w) _ (.inl rfl) (fun ρ w hC hc hfn hf => by have e11 : ρ (.tmp 11) = _ := hf 11 (by decide); (conv => lhs; simp [execOp, go_sem, hc, e11])) ?_
    refine w_is (fun w => Below.refl _ w) _ (.inr ⟨3, 12, false, rfl, rfl, known_is rfl⟩) (fun ρ w hC hc hfn hf => by have e0 : ρ (.tmp 0) = _ := hf 0 (by decide); (conv => lhs; simp [execOp, go_sem, hc, e0])) ?_
    refine w_call (Is _) (fun _ _ _ h _ => h) 32 (.inr ⟨3, 12, false, rfl, rfl, known_is rfl⟩) (fun ρ w hC hc hfn hf => by have e13 : ρ (.tmp 13) = _ := hf 13 (by decide); exact ⟨_, by (conv => lhs; simp [execOp, resolve, invoke, go_sem, hc, hfn, e13]), tc_same hC (xfirst_any (HX1.out.below hC) f HF0.out HF1.out)⟩) ?_
    refine w_is (fun w => Below.refl _ w) _ (.inr ⟨3, 12, false, rfl, rfl, known_is rfl⟩) (fun ρ w hC hc hfn hf => by have e3 : ρ (.tmp 3) = _ := hf 3 (by decide); (conv => lhs; simp [execOp, go_sem, hc, e3])) ?_
    refine w_is (fun w => Below.refl _ w) _ (.inr ⟨3, 12, false, rfl, rfl, known_is rfl⟩) (fun ρ w hC hc hfn hf => by have e15 : ρ (.tmp 15) = _ := hf 15 (by decide); (conv => lhs; simp [execOp, go_sem, hc, e15, kc w hC])) ?_
    refine w_call (Is _) (fun _ _ _ h _ => h) 33 (.inr ⟨3, 12, false, rfl, rfl, known_is rfl⟩) (fun ρ w hC hc hfn hf => by have e14 : ρ (.tmp 14) = _ := hf 14 (by decide); have e16 : ρ (.tmp 16) = _ := hf 16 (by decide); exact ⟨_, by (conv => lhs; simp [execOp, resolve, invoke, go_sem, hc, hfn, e14, e16]), tc_same hC (rfar_any f a3 w)⟩) ?_
    refine w_is (fun w => Below.refl _ w) _ (.inr ⟨3, 12, false, rfl, rfl, known_is rfl⟩) (fun ρ w hC hc hfn hf => by have e0 : ρ (.tmp 0) = _ := hf 0 (by decide); (conv => lhs; simp [execOp, go_sem, hc, e0])) ?_
    refine w_call (Is _) (fun _ _ _ h _ => h) 32 (.inr ⟨3, 12, false, rfl, rfl, known_is rfl⟩) (fun ρ w hC hc hfn hf => by have e18 : ρ (.tmp 18) = _ := hf 18 (by decide); exact ⟨_, by (conv => lhs; simp [execOp, resolve, invoke, go_sem, hc, hfn, e18]), tc_same hC (xfirst_any (HX1.out.below hC) f HF0.out HF1.out)⟩) ?_
    refine w_is (fun w => Below.refl _ w) _ (.inr ⟨3, 12, false, rfl, rfl, known_is rfl⟩) (fun ρ w hC hc hfn hf => by have e0 : ρ (.tmp 0) = _ := hf 0 (by decide); (conv => lhs; simp [execOp, go_sem, hc, e0])) ?_
    refine w_is (fun w => Below.refl _ w) _ (.inr ⟨3, 12, false, rfl, rfl, known_is rfl⟩) (fun ρ w hC hc hfn hf => by have e20 : ρ (.tmp 20) = _ := hf 20 (by decide); (conv => lhs; simp [execOp, go_sem, hc, e20])) ?_
    refine w_is (fun w => Below.refl _ w) _ (.inr ⟨3, 12, false, rfl, rfl, known_is rfl⟩) (fun ρ w hC hc hfn hf => by have e21 : ρ (.tmp 21) = _ := hf 21 (by decide); (conv => lhs; simp [execOp, go_sem, hc, e21])) ?_
    refine w_is (fun w => Below.refl _ w) _ (.inr ⟨3, 12, false, rfl, rfl, known_is rfl⟩) (fun ρ w hC hc hfn hf => by have e22 : ρ (.tmp 22) = _ := hf 22 (by decide); (conv => lhs; simp [execOp, go_sem, hc, e22, kc w hC])) ?_
    refine w_call (Is _) (fun _ _ _ h _ => h) 33 (.inr ⟨3, 12, false, rfl, rfl, known_is rfl⟩) (fun ρ w hC hc hfn hf => by have e19 : ρ (.tmp 19) = _ := hf 19 (by decide); have e23 : ρ (.tmp 23) = _ := hf 23 (by decide); exact ⟨_, by (conv => lhs; simp [execOp, resolve, invoke, go_sem, hc, hfn, e19, e23]), tc_same hC (rfar_any f s.nx w)⟩) ?_
    refine w_is (fun w => Below.refl _ w) _ (.inr ⟨3, 12, false, rfl, rfl, known_is rfl⟩) (fun ρ w hC hc hfn hf => by have e17 : ρ (.tmp 17) = _ := hf 17 (by decide); have e24 : ρ (.tmp 24) = _ := hf 24 (by decide); (conv => lhs; simp [execOp, go_sem, hc, e17, e24])) ?_
    refine w_is (fun w => Below.refl _ w) _ (.inl rfl) (fun ρ w hC hc hfn hf => by have e12 : ρ (.tmp 12) = _ := hf 12 (by decide); have e25 : ρ (.tmp 25) = _ := hf 25 (by decide); (conv => lhs; simp [execOp, go_sem, hc, e12, e25])) ?_
    intro A W4 hC hn hd hf
    have y0 : A.eval (.tmp 0) = _ := Eq.trans (hf 0) (by conv => lhs; simp [go_sem])
    have y1 : A.eval (.tmp 1) = _ := Eq.trans (hf 1) (by conv => lhs; simp [go_sem])
    have y2 : A.eval (.tmp 2) = _ := Eq.trans (hf 2) (by conv => lhs; simp [go_sem])
    have y3 : A.eval (.tmp 3) = _ := Eq.trans (hf 3) (by conv => lhs; simp [go_sem])
    have y4 : A.eval (.tmp 4) = _ := Eq.trans (hf 4) (by conv => lhs; simp [go_sem])
    have y5 : A.eval (.tmp 5) = _ := Eq.trans (hf 5) (by conv => lhs; simp [go_sem])
    have y6 : A.eval (.tmp 6) = _ := Eq.trans (hf 6) (by conv => lhs; simp [go_sem])
    have y7 : A.eval (.tmp 7) = _ := Eq.trans (hf 7) (by conv => lhs; simp [go_sem])
    have y8 : A.eval (.tmp 8) = _ := Eq.trans (hf 8) (by conv => lhs; simp [go_sem])
    have y9 : A.eval (.tmp 9) = _ := hf 9
    have y10 : A.eval (.tmp 10) = _ := hf 10
    have y11 : A.eval (.tmp 11) = _ := hf 11
    have y12 : A.eval (.tmp 12) = _ := hf 12
    have y13 : A.eval (.tmp 13) = _ := hf 13
    have y14 : A.eval (.tmp 14) = _ := hf 14
    have y15 : A.eval (.tmp 15) = _ := hf 15
    have y16 : A.eval (.tmp 16) = _ := hf 16
    have y17 : A.eval (.tmp 17) = _ := hf 17
    have y18 : A.eval (.tmp 18) = _ := hf 18
    have y19 : A.eval (.tmp 19) = _ := hf 19
    have y20 : A.eval (.tmp 20) = _ := hf 20
    have y21 : A.eval (.tmp 21) = _ := hf 21
    have y22 : A.eval (.tmp 22) = _ := hf 22
    have y23 : A.eval (.tmp 23) = _ := hf 23
    have y24 : A.eval (.tmp 24) = _ := hf 24
    have y25 : A.eval (.tmp 25) = _ := hf 25
    have y26 : A.eval (.tmp 26) = _ := hf 26
    have y27 : A.eval (.tmp 27) = _ := Eq.trans (hf 27) (by conv => lhs; simp [go_sem])
    have y28 : A.eval (.tmp 28) = _ := Eq.trans (hf 28) (by conv => lhs; simp [go_sem])
    have y29 : A.eval (.tmp 29) = _ := Eq.trans (hf 29) (by conv => lhs; simp [go_sem])
    have y30 : A.eval (.tmp 30) = _ := Eq.trans (hf 30) (by conv => lhs; simp [go_sem])
    have y31 : A.eval (.tmp 31) = _ := Eq.trans (hf 31) (by conv => lhs; simp [go_sem])
    have y32 : A.eval (.tmp 32) = _ := Eq.trans (hf 32) (by conv => lhs; simp [go_sem])
    have y33 : A.eval (.tmp 33) = _ := Eq.trans (hf 33) (by conv => lhs; simp [go_sem])
    have y34 : A.eval (.tmp 34) = _ := Eq.trans (hf 34) (by conv => lhs; simp [go_sem])
    have y35 : A.eval (.tmp 35) = _ := Eq.trans (hf 35) (by conv => lhs; simp [go_sem])
    have y36 : A.eval (.tmp 36) = _ := Eq.trans (hf 36) (by conv => lhs; simp [go_sem])
    have y37 : A.eval (.tmp 37) = _ := Eq.trans (hf 37) (by conv => lhs; simp [go_sem])
    have y38 : A.eval (.tmp 38) = _ := Eq.trans (hf 38) (by conv => lhs; simp [go_sem])
    have y39 : A.eval (.tmp 39) = _ := Eq.trans (hf 39) (by conv => lhs; simp [go_sem])
    have y40 : A.eval (.tmp 40) = _ := Eq.trans (hf 40) (by conv => lhs; simp [go_sem])
    have y41 : A.eval (.tmp 41) = _ := Eq.trans (hf 41) (by conv => lhs; simp [go_sem])
    have y42 : A.eval (.tmp 42) = _ := Eq.trans (hf 42) (by conv => lhs; simp [go_sem])
    have y43 : A.eval (.tmp 43) = _ := Eq.trans (hf 43) (by conv => lhs; simp [go_sem])
    have y44 : A.eval (.tmp 44) = _ := Eq.trans (hf 44) (by conv => lhs; simp [go_sem])
    have y45 : A.eval (.tmp 45) = _ := Eq.trans (hf 45) (by conv => lhs; simp [go_sem])
    have y46 : A.eval (.tmp 46) = _ := Eq.trans (hf 46) (by conv => lhs; simp [go_sem])
    have y47 : A.eval (.tmp 47) = _ := Eq.trans (hf 47) (by conv => lhs; simp [go_sem])
    have y48 : A.eval (.tmp 48) = _ := Eq.trans (hf 48) (by conv => lhs; simp [go_sem])
    have y49 : A.eval (.tmp 49) = _ := Eq.trans (hf 49) (by conv => lhs; simp [go_sem])
    have y50 : A.eval (.tmp 50) = _ := Eq.trans (hf 50) (by conv => lhs; simp [go_sem])
    have y51 : A.eval (.tmp 51) = _ := Eq.trans (hf 51) (by conv => lhs; simp [go_sem])
    have y52 : A.eval (.tmp 52) = _ := Eq.trans (hf 52) (by conv => lhs; simp [go_sem])
    have y53 : A.eval (.tmp 53) = _ := Eq.trans (hf 53) (by conv => lhs; simp [go_sem])
    have y54 : A.eval (.tmp 54) = _ := Eq.trans (hf 54) (by conv => lhs; simp [go_sem])
    have y55 : A.eval (.tmp 55) = _ := Eq.trans (hf 55) (by conv => lhs; simp [go_sem])
    have y56 : A.eval (.tmp 56) = _ := Eq.trans (hf 56) (by conv => lhs; simp [go_sem])
    have y57 : A.eval (.tmp 57) = _ := Eq.trans (hf 57) (by conv => lhs; simp [go_sem])
    have y58 : A.eval (.tmp 58) = _ := Eq.trans (hf 58) (by conv => lhs; simp [go_sem])
    have y59 : A.eval (.tmp 59) = _ := Eq.trans (hf 59) (by conv => lhs; simp [go_sem])
    have y60 : A.eval (.tmp 60) = _ := Eq.trans (hf 60) (by conv => lhs; simp [go_sem])
    have y61 : A.eval (.tmp 61) = _ := Eq.trans (hf 61) (by conv => lhs; simp [go_sem])
    have y62 : A.eval (.tmp 62) = _ := Eq.trans (hf 62) (by conv => lhs; simp [go_sem])
    have y63 : A.eval (.tmp 63) = _ := Eq.trans (hf 63) (by conv => lhs; simp [go_sem])
    have y64 : A.eval (.tmp 64) = _ := Eq.trans (hf 64) (by conv => lhs; simp [go_sem])
    have y65 : A.eval (.tmp 65) = _ := Eq.trans (hf 65) (by conv => lhs; simp [go_sem])
    have y66 : A.eval (.tmp 66) = _ := Eq.trans (hf 66) (by conv => lhs; simp [go_sem])
    have y67 : A.eval (.tmp 67) = _ := Eq.trans (hf 67) (by conv => lhs; simp [go_sem])
    have y68 : A.eval (.tmp 68) = _ := Eq.trans (hf 68) (by conv => lhs; simp [go_sem])
    have y69 : A.eval (.tmp 69) = _ := Eq.trans (hf 69) (by conv => lhs; simp [go_sem])
    have y70 : A.eval (.tmp 70) = _ := Eq.trans (hf 70) (by conv => lhs; simp [go_sem])
    have y71 : A.eval (.tmp 71) = _ := Eq.trans (hf 71) (by conv => lhs; simp [go_sem])
    have y72 : A.eval (.tmp 72) = _ := Eq.trans (hf 72) (by conv => lhs; simp [go_sem])
    have y73 : A.eval (.tmp 73) = _ := Eq.trans (hf 73) (by conv => lhs; simp [go_sem])
    have y74 : A.eval (.tmp 74) = _ := Eq.trans (hf 74) (by conv => lhs; simp [go_sem])
    have y75 : A.eval (.tmp 75) = _ := Eq.trans (hf 75) (by conv => lhs; simp [go_sem])
    have y76 : A.eval (.tmp 76) = _ := Eq.trans (hf 76) (by conv => lhs; simp [go_sem])
    have y77 : A.eval (.tmp 77) = _ := Eq.trans (hf 77) (by conv => lhs; simp [go_sem])
    have y78 : A.eval (.tmp 78) = _ := Eq.trans (hf 78) (by conv => lhs; simp [go_sem])
    have y79 : A.eval (.tmp 79) = _ := Eq.trans (hf 79) (by conv => lhs; simp [go_sem])
    have y80 : A.eval (.tmp 80) = _ := Eq.trans (hf 80) (by conv => lhs; simp [go_sem])
    have y81 : A.eval (.tmp 81) = _ := Eq.trans (hf 81) (by conv => lhs; simp [go_sem])
    have y82 : A.eval (.tmp 82) = _ := Eq.trans (hf 82) (by conv => lhs; simp [go_sem])
    have y83 : A.eval (.tmp 83) = _ := Eq.trans (hf 83) (by conv => lhs; simp [go_sem])
    clear hf
    have hA := frame_eq hn
    rw [show List.range 84 = [0, 1, 2, 3, 4, 5, 6, 7, 8, 9, 10, 11, 12, 13, 14, 15, 16, 17, 18, 19, 20, 21, 22, 23, 24, 25, 26, 27, 28, 29, 30, 31, 32, 33, 34, 35, 36, 37, 38, 39, 40, 41, 42, 43, 44, 45, 46, 47, 48, 49, 50, 51, 52, 53, 54, 55, 56, 57, 58, 59, 60, 61, 62, 63, 64, 65, 66, 67, 68, 69, 70, 71, 72, 73, 74, 75, 76, 77, 78, 79, 80, 81, 82, 83] from rfl, hd] at hA
    simp only [List.map_cons, List.map_nil, y0, y1, y2, y3, y4, y5, y6, y7, y8, y9, y10, y11, y12, y13, y14, y15, y16, y17, y18, y19, y20, y21, y22, y23, y24, y25, y26, y27, y28, y29, y30, y31, y32, y33, y34, y35, y36, y37, y38, y39, y40, y41, y42, y43, y44, y45, y46, y47, y48, y49, y50, y51, y52, y53, y54, y55, y56, y57, y58, y59, y60, y61, y62, y63, y64, y65, y66, y67, y68, y69, y70, y71, y72, y73, y74, y75, y76, y77, y78, y79, y80, y81, y82, y83] at hA
    clear y0 y1 y2 y3 y4 y5 y6 y7 y8 y9 y10 y11 y12 y13 y14 y15 y16 y17 y18 y19 y20 y21 y22 y23 y24 y25 y26 y27 y28 y29 y30 y31 y32 y33 y34 y35 y36 y37 y38 y39 y40 y41 y42 y43 y44 y45 y46 y47 y48 y49 y50 y51 y52 y53 y54 y55 y56 y57 y58 y59 y60 y61 y62 y63 y64 y65 y66 y67 y68 y69 y70 y71 y72 y73 y74 y75 y76 y77 y78 y79 y80 y81 y82 y83
    clear hn hd
    subst hA
    have HB4 := Lib.hid (HB1.out.trans (hC.mono HB1.out.size))
    have HA4 := Lib.hid (HA1.out.below hC)
    clear kc hC
    by_cases hgt : far f s.nx < far f a3
    · obtain ⟨e1, e2⟩ := xgot_far (s := s) (a := (a1, a2, a3, a4)) (by rw [HFS.out]; show ¬ far f a3 ≤ far f s.nx; omega)
      have HE1 := Lib.hid e1
      have HE2 := Lib.hid e2
      have hd : decide (far f s.nx < far f a3) = true := decide_eq_true hgt
      clear e1 e2 hgt
      simp only [hd]
      go_wp2_with fail
      go_ret
      rw [HE1.out, HE2.out]
      refine ⟨rfl, chg0 HB4.out, K, Y, ⟨.slice aO Y.length cO, .slice aS M.length cS, ?_⟩, HY.out, fun k hk => .inl hk⟩
      rw [HM.out]
      exact HX0.out.below HB4.out
    · have HE1 : Hid (gtS s (a1, a2, a3, a4) = { s with L := s.L.filter (kpt (a1, a2, a3, a4)) }) := gtS_yes ⟨hone, by rw [HFS.out]; show far f a3 ≤ far f s.nx; omega⟩
      have hd : decide (far f s.nx < far f a3) = false := decide_eq_false hgt
      clear hgt
      simp only [hd]
      go_wp2_with fail
      go_loopw [5, 6, 7] (fun ov sv iv wr => ∃ (k : Nat) (ao : Option Addr) (co : Nat) (az : Option Addr) (cz : Nat) (Z : Ys), k ≤ Y.length ∧ Z.length ≤ k ∧ iv = .int .i64 k ∧ ov = .slice ao Z.length co ∧ sv = .slice az Z.length cz ∧ Hid (Z.map Prod.snd = (kpL (a1, a2, a3, a4) s k).map Prod.fst) ∧ Hid (∀ z ∈ Z, z ∈ Y) ∧ Hid (OwQS wr w.heap.size (.slice ao Z.length co) (Z.map Prod.fst)) ∧ Hid (OwNS wr w.heap.size (.slice az Z.length cz) ((kpL (a1, a2, a3, a4) s k).map Prod.snd)) ∧ Hid (Below w.heap.size w wr)  ∧ Hid (AkB wr g0 (a1, a2, a3, a4))) (fun _ _ i _ => Y.length - (intOf i).toNat)
      case atStart => exact ⟨0, none, 0, none, 0, [], Nat.zero_le _, Nat.le_refl _, rfl, rfl, rfl, rfl, fun z hz => absurd hz List.not_mem_nil, gown_nil (R := RBT) _ _, gown_nil (R := RIN) _ _, HB4.out, HA4.out⟩
      case round =>
        obtain ⟨k, ao, co, az, cz, Z, hk, hzk, rfl, rfl, rfl, HZS, HZY, HQO, HNO, HB, HA⟩ := hrel
        clear HB4 HA4
        have hx := HX0.out.below HB.out
        obtain ⟨c0, c1, c2, c3, c4, c5, cf⟩ := hx.cells
        by_cases hlt : k < Y.length
        · obtain ⟨y, e, hy, he, hye, hme, hml, hll⟩ := l_at HY.out HM.out hlt
          obtain ⟨gO, haO, -, hncO, q0, q1⟩ := yq_at (v := vW) hx.ot hy
          obtain ⟨gS, haS, -, hncS, q2, -⟩ := in_at hx.st hme
          have hyn := (hx.yk y (List.mem_of_getElem? hy)).1
          obtain ⟨⟨n1, ya, yl, yc⟩, ⟨n, ys⟩⟩ := y
          obtain ⟨et, e2⟩ := e
          simp only at hyn hye q0 q1 q2
          have hyn' := hyn.symm
          clear hyn
          subst hyn'
          subst hye
          subst haO
          subst haS
          have hgO := hx.lt gO (hx.of gO rfl)
          have hgS := hx.lt gS (hx.sf gS rfl)
          have hbl := hx.lt b hx.fb
          have hm16 : M.length ≤ 16 := by omega
          have hltz : (k : Int) < Y.length := by omega
          have hltm : (k : Int) < M.length := by omega
          have kc8 : ∀ w', Below wr.heap.size wr w' → (w'.cell? ⟨g0, 0, none⟩ = some (.int .i64 a1) ∧ w'.cell? ⟨g0, 1, none⟩ = some (.int .i64 a2) ∧ w'.cell? ⟨g0, 2, none⟩ = some (.int .i64 a3) ∧ w'.cell? ⟨g0, 3, none⟩ = some (.int .i64 a4)) ∧ w'.cell? ⟨b, 3, none⟩ = some (.slice (some ⟨gO, 0, none⟩) Y.length cO) ∧ w'.cell? ⟨gO, k * 2, none⟩ = some (.int .i64 n) := fun w' h => by
            have h4 := (HA.out.below h).c4
            exact ⟨h4, (h.cell (p := ⟨b, 3, none⟩) hbl).trans c3, (h.cell (p := ⟨gO, k * 2, none⟩) hgO).trans q0⟩
          have HYE := Lib.hid (And.intro hy he)
          have HC3 := Lib.hid (And.intro c3 (And.intro c4 (And.intro q0 (And.intro q1 q2))))
          have HGL := Lib.hid (And.intro hgO (And.intro hgS hbl))
          clear c0 c1 c2 c4 c5 cf hx hy he hme q0 q1 q2 hgO hgS hbl hll hml
          go_upto_region 8 with (fail)
          clear c3
          refine T3.wp_region_tail (C := fun w' => Below wr.heap.size wr w') (X := fun _ w w' => Below w.heap.size w w') (n := 84) 10 (by kernel_rfl) (by kernel_rfl) (by kernel_rfl) (by kernel_rfl) rfl (fun _ w => Below.refl _ w) (Below.refl _ _).drew ?_
          simp only [List.take_succ_cons, List.take_zero, List.drop_succ_cons, List.drop_zero]
          refine T3.w_is (fun _ w => Below.refl _ w) rfl _ (.inl rfl) (fun ρ w hC hc hfn hf => by have e3 : ρ (.tmp 3) = _ := hf 3 (by decide); (conv => lhs; simp [execOp, go_sem, hc, e3, kc8 w hC])) ?_
          refine T3.w_is (fun _ w => Below.refl _ w) rfl _ (.inl rfl) (fun ρ w hC hc hfn hf => by have e0 : ρ (.tmp 0) = _ := hf 0 (by decide); (conv => lhs; simp [execOp, go_sem, hc, e0])) ?_
          refine T3.w_is (fun _ w => Below.refl _ w) rfl _ (.inl rfl) (fun ρ w hC hc hfn hf => by have e37 : ρ (.tmp 37) = _ := hf 37 (by decide); (conv => lhs; simp [execOp, go_sem, hc, e37])) ?_
          refine T3.w_is (fun _ w => Below.refl _ w) rfl _ (.inl rfl) (fun ρ w hC hc hfn hf => by have e38 : ρ (.tmp 38) = _ := hf 38 (by decide); (conv => lhs; simp [execOp, go_sem, hc, e38])) ?_
          refine T3.w_is (fun _ w => Below.refl _ w) rfl _ (.inl rfl) (fun ρ w hC hc hfn hf => by have e39 : ρ (.tmp 39) = _ := hf 39 (by decide); (conv => lhs; simp [execOp, go_sem, hc, e39, kc8 w hC])) ?_
          refine T3.w_is (fun _ w => Below.refl _ w) rfl _ (.inl rfl) (fun ρ w hC hc hfn hf => by have e7 : ρ (.tmp 7) = _ := hf 7 (by decide); (conv => lhs; simp [execOp, go_sem, hc, e7])) ?_
          refine T3.w_is (fun _ w => Below.refl _ w) rfl _ (.inl rfl) (fun ρ w hC hc hfn hf => by have e40 : ρ (.tmp 40) = _ := hf 40 (by decide); have e41 : ρ (.tmp 41) = _ := hf 41 (by decide); (conv => lhs; simp [execOp, go_sem, hc, e40, e41, hltz])) ?_
          refine T3.w_is (fun _ w => Below.refl _ w) rfl _ (.inl rfl) (fun ρ w hC hc hfn hf => by have e42 : ρ (.tmp 42) = _ := hf 42 (by decide); (conv => lhs; simp [execOp, go_sem, hc, e42])) ?_
          refine T3.w_is (fun _ w => Below.refl _ w) rfl _ (.inl rfl) (fun ρ w hC hc hfn hf => by have e43 : ρ (.tmp 43) = _ := hf 43 (by decide); (conv => lhs; simp [execOp, go_sem, hc, e43, kc8 w hC])) ?_
          refine T3.w_call rfl (Is _) (fun _ _ _ _ _ h _ => h) 42 (.inl rfl) (fun ρ w hC hc hfn hf => by have e36 : ρ (.tmp 36) = _ := hf 36 (by decide); have e44 : ρ (.tmp 44) = _ := hf 44 (by decide); exact ⟨_, by (conv => lhs; simp [execOp, resolve, invoke, go_sem, hc, hfn, e36, e44]), (rhas_fix a1 a2 a3 a4 n true ⟨fun _ => HONE.out, fun _ => rfl⟩ w).mono fun e w' h => ⟨_, h.1, hC.trans (h.2.mono hC.size), h.2, rfl⟩⟩) ?_
          intro A V5 hC hn hd hf
          have y0 : A.eval (.tmp 0) = _ := Eq.trans (hf 0) (by conv => lhs; simp [go_sem])
          have y1 : A.eval (.tmp 1) = _ := Eq.trans (hf 1) (by conv => lhs; simp [go_sem])
          have y2 : A.eval (.tmp 2) = _ := Eq.trans (hf 2) (by conv => lhs; simp [go_sem])
          have y3 : A.eval (.tmp 3) = _ := Eq.trans (hf 3) (by conv => lhs; simp [go_sem])
          have y4 : A.eval (.tmp 4) = _ := Eq.trans (hf 4) (by conv => lhs; simp [go_sem])
          have y5 : A.eval (.tmp 5) = _ := Eq.trans (hf 5) (by conv => lhs; simp [go_sem])
          have y6 : A.eval (.tmp 6) = _ := Eq.trans (hf 6) (by conv => lhs; simp [go_sem])
          have y7 : A.eval (.tmp 7) = _ := Eq.trans (hf 7) (by conv => lhs; simp [go_sem])
          have y8 : A.eval (.tmp 8) = _ := Eq.trans (hf 8) (by conv => lhs; simp [go_sem])
          have y9 : A.eval (.tmp 9) = _ := Eq.trans (hf 9) (by conv => lhs; simp [go_sem])
          have y10 : A.eval (.tmp 10) = _ := Eq.trans (hf 10) (by conv => lhs; simp [go_sem])
          have y11 : A.eval (.tmp 11) = _ := Eq.trans (hf 11) (by conv => lhs; simp [go_sem])
          have y12 : A.eval (.tmp 12) = _ := Eq.trans (hf 12) (by conv => lhs; simp [go_sem])
          have y13 : A.eval (.tmp 13) = _ := Eq.trans (hf 13) (by conv => lhs; simp [go_sem])
          have y14 : A.eval (.tmp 14) = _ := Eq.trans (hf 14) (by conv => lhs; simp [go_sem])
          have y15 : A.eval (.tmp 15) = _ := Eq.trans (hf 15) (by conv => lhs; simp [go_sem])
          have y16 : A.eval (.tmp 16) = _ := Eq.trans (hf 16) (by conv => lhs; simp [go_sem])
          have y17 : A.eval (.tmp 17) = _ := Eq.trans (hf 17) (by conv => lhs; simp [go_sem])
          have y18 : A.eval (.tmp 18) = _ := Eq.trans (hf 18) (by conv => lhs; simp [go_sem])
          have y19 : A.eval (.tmp 19) = _ := Eq.trans (hf 19) (by conv => lhs; simp [go_sem])
          have y20 : A.eval (.tmp 20) = _ := Eq.trans (hf 20) (by conv => lhs; simp [go_sem])
          have y21 : A.eval (.tmp 21) = _ := Eq.trans (hf 21) (by conv => lhs; simp [go_sem])
          have y22 : A.eval (.tmp 22) = _ := Eq.trans (hf 22) (by conv => lhs; simp [go_sem])
          have y23 : A.eval (.tmp 23) = _ := Eq.trans (hf 23) (by conv => lhs; simp [go_sem])
          have y24 : A.eval (.tmp 24) = _ := Eq.trans (hf 24) (by conv => lhs; simp [go_sem])
          have y25 : A.eval (.tmp 25) = _ := Eq.trans (hf 25) (by conv => lhs; simp [go_sem])
          have y26 : A.eval (.tmp 26) = _ := Eq.trans (hf 26) (by conv => lhs; simp [go_sem])
          have y27 : A.eval (.tmp 27) = _ := Eq.trans (hf 27) (by conv => lhs; simp [go_sem])
          have y28 : A.eval (.tmp 28) = _ := Eq.trans (hf 28) (by conv => lhs; simp [go_sem])
          have y29 : A.eval (.tmp 29) = _ := Eq.trans (hf 29) (by conv => lhs; simp [go_sem])
          have y30 : A.eval (.tmp 30) = _ := Eq.trans (hf 30) (by conv => lhs; simp [go_sem])
          have y31 : A.eval (.tmp 31) = _ := Eq.trans (hf 31) (by conv => lhs; simp [go_sem])
          have y32 : A.eval (.tmp 32) = _ := Eq.trans (hf 32) (by conv => lhs; simp [go_sem])
          have y33 : A.eval (.tmp 33) = _ := Eq.trans (hf 33) (by conv => lhs; simp [go_sem])
          have y34 : A.eval (.tmp 34) = _ := Eq.trans (hf 34) (by conv => lhs; simp [go_sem])
          have y35 : A.eval (.tmp 35) = _ := Eq.trans (hf 35) (by conv => lhs; simp [go_sem])
          have y36 : A.eval (.tmp 36) = _ := hf 36
          have y37 : A.eval (.tmp 37) = _ := hf 37
          have y38 : A.eval (.tmp 38) = _ := hf 38
          have y39 : A.eval (.tmp 39) = _ := hf 39
          have y40 : A.eval (.tmp 40) = _ := hf 40
          have y41 : A.eval (.tmp 41) = _ := hf 41
          have y42 : A.eval (.tmp 42) = _ := hf 42
          have y43 : A.eval (.tmp 43) = _ := hf 43
          have y44 : A.eval (.tmp 44) = _ := hf 44
          have y45 : A.eval (.tmp 45) = _ := hf 45
          have y46 : A.eval (.tmp 46) = _ := Eq.trans (hf 46) (by conv => lhs; simp [go_sem])
          have y47 : A.eval (.tmp 47) = _ := Eq.trans (hf 47) (by conv => lhs; simp [go_sem])
          have y48 : A.eval (.tmp 48) = _ := Eq.trans (hf 48) (by conv => lhs; simp [go_sem])
          have y49 : A.eval (.tmp 49) = _ := Eq.trans (hf 49) (by conv => lhs; simp [go_sem])
          have y50 : A.eval (.tmp 50) = _ := Eq.trans (hf 50) (by conv => lhs; simp [go_sem])
          have y51 : A.eval (.tmp 51) = _ := Eq.trans (hf 51) (by conv => lhs; simp [go_sem])
          have y52 : A.eval (.tmp 52) = _ := Eq.trans (hf 52) (by conv => lhs; simp [go_sem])
          have y53 : A.eval (.tmp 53) = _ := Eq.trans (hf 53) (by conv => lhs; simp [go_sem])
          have y54 : A.eval (.tmp 54) = _ := Eq.trans (hf 54) (by conv => lhs; simp [go_sem])
          have y55 : A.eval (.tmp 55) = _ := Eq.trans (hf 55) (by conv => lhs; simp [go_sem])
          have y56 : A.eval (.tmp 56) = _ := Eq.trans (hf 56) (by conv => lhs; simp [go_sem])
          have y57 : A.eval (.tmp 57) = _ := Eq.trans (hf 57) (by conv => lhs; simp [go_sem])
          have y58 : A.eval (.tmp 58) = _ := Eq.trans (hf 58) (by conv => lhs; simp [go_sem])
          have y59 : A.eval (.tmp 59) = _ := Eq.trans (hf 59) (by conv => lhs; simp [go_sem])
          have y60 : A.eval (.tmp 60) = _ := Eq.trans (hf 60) (by conv => lhs; simp [go_sem])
          have y61 : A.eval (.tmp 61) = _ := Eq.trans (hf 61) (by conv => lhs; simp [go_sem])
          have y62 : A.eval (.tmp 62) = _ := Eq.trans (hf 62) (by conv => lhs; simp [go_sem])
          have y63 : A.eval (.tmp 63) = _ := Eq.trans (hf 63) (by conv => lhs; simp [go_sem])
          have y64 : A.eval (.tmp 64) = _ := Eq.trans (hf 64) (by conv => lhs; simp [go_sem])
          have y65 : A.eval (.tmp 65) = _ := Eq.trans (hf 65) (by conv => lhs; simp [go_sem])
          have y66 : A.eval (.tmp 66) = _ := Eq.trans (hf 66) (by conv => lhs; simp [go_sem])
          have y67 : A.eval (.tmp 67) = _ := Eq.trans (hf 67) (by conv => lhs; simp [go_sem])
          have y68 : A.eval (.tmp 68) = _ := Eq.trans (hf 68) (by conv => lhs; simp [go_sem])
          have y69 : A.eval (.tmp 69) = _ := Eq.trans (hf 69) (by conv => lhs; simp [go_sem])
          have y70 : A.eval (.tmp 70) = _ := Eq.trans (hf 70) (by conv => lhs; simp [go_sem])
          have y71 : A.eval (.tmp 71) = _ := Eq.trans (hf 71) (by conv => lhs; simp [go_sem])
          have y72 : A.eval (.tmp 72) = _ := Eq.trans (hf 72) (by conv => lhs; simp [go_sem])
          have y73 : A.eval (.tmp 73) = _ := Eq.trans (hf 73) (by conv => lhs; simp [go_sem])
          have y74 : A.eval (.tmp 74) = _ := Eq.trans (hf 74) (by conv => lhs; simp [go_sem])
          have y75 : A.eval (.tmp 75) = _ := Eq.trans (hf 75) (by conv => lhs; simp [go_sem])
          have y76 : A.eval (.tmp 76) = _ := Eq.trans (hf 76) (by conv => lhs; simp [go_sem])
          have y77 : A.eval (.tmp 77) = _ := Eq.trans (hf 77) (by conv => lhs; simp [go_sem])
          have y78 : A.eval (.tmp 78) = _ := Eq.trans (hf 78) (by conv => lhs; simp [go_sem])
          have y79 : A.eval (.tmp 79) = _ := Eq.trans (hf 79) (by conv => lhs; simp [go_sem])
          have y80 : A.eval (.tmp 80) = _ := Eq.trans (hf 80) (by conv => lhs; simp [go_sem])
          have y81 : A.eval (.tmp 81) = _ := Eq.trans (hf 81) (by conv => lhs; simp [go_sem])
          have y82 : A.eval (.tmp 82) = _ := Eq.trans (hf 82) (by conv => lhs; simp [go_sem])
          have y83 : A.eval (.tmp 83) = _ := Eq.trans (hf 83) (by conv => lhs; simp [go_sem])
          clear hf
          have hA := frame_eq hn
          rw [show List.range 84 = [0, 1, 2, 3, 4, 5, 6, 7, 8, 9, 10, 11, 12, 13, 14, 15, 16, 17, 18, 19, 20, 21, 22, 23, 24, 25, 26, 27, 28, 29, 30, 31, 32, 33, 34, 35, 36, 37, 38, 39, 40, 41, 42, 43, 44, 45, 46, 47, 48, 49, 50, 51, 52, 53, 54, 55, 56, 57, 58, 59, 60, 61, 62, 63, 64, 65, 66, 67, 68, 69, 70, 71, 72, 73, 74, 75, 76, 77, 78, 79, 80, 81, 82, 83] from rfl, hd] at hA
          simp only [List.map_cons, List.map_nil, y0, y1, y2, y3, y4, y5, y6, y7, y8, y9, y10, y11, y12, y13, y14, y15, y16, y17, y18, y19, y20, y21, y22, y23, y24, y25, y26, y27, y28, y29, y30, y31, y32, y33, y34, y35, y36, y37, y38, y39, y40, y41, y42, y43, y44, y45, y46, y47, y48, y49, y50, y51, y52, y53, y54, y55, y56, y57, y58, y59, y60, y61, y62, y63, y64, y65, y66, y67, y68, y69, y70, y71, y72, y73, y74, y75, y76, y77, y78, y79, y80, y81, y82, y83] at hA
          clear y0 y1 y2 y3 y4 y5 y6 y7 y8 y9 y10 y11 y12 y13 y14 y15 y16 y17 y18 y19 y20 y21 y22 y23 y24 y25 y26 y27 y28 y29 y30 y31 y32 y33 y34 y35 y36 y37 y38 y39 y40 y41 y42 y43 y44 y45 y46 y47 y48 y49 y50 y51 y52 y53 y54 y55 y56 y57 y58 y59 y60 y61 y62 y63 y64 y65 y66 y67 y68 y69 y70 y71 y72 y73 y74 y75 y76 y77 y78 y79 y80 y81 y82 y83
          clear hn hd
          subst hA
          have HC5 := Lib.hid hC
          have HB5 := Lib.hid (HB.out.trans (hC.mono HB.out.size))
          have HA5 := Lib.hid (HA.out.below hC)
          clear kc8 hC
          have hsu := kpL_succ (a1, a2, a3, a4) HYE.out.2
          cases hh : hasN a3 a4 n with
          | true =>
            have hks : kpL (a1, a2, a3, a4) s (k + 1) = kpL (a1, a2, a3, a4) s k := by
              rw [hsu, if_neg (show ¬ kpt (a1, a2, a3, a4) ((n, ys), e2) = true by unfold kpt; rw [show hasN (a1, a2, a3, a4).2.2.1 (a1, a2, a3, a4).2.2.2 ((n, ys), e2).1.1 = true from hh]; decide), List.append_nil]
            have HKS := Lib.hid hks
            have HQ5 := Lib.hid (gown_below HQO.out HC5.out)
            have HN5 := Lib.hid (gown_below HNO.out HC5.out)
            clear hsu hks
            go_wp2_with fail
            go_roundw
            case rel => exact ⟨k + 1, ao, co, az, cz, Z, by omega, by omega, by go_num, rfl, rfl, by rw [HKS.out]; exact HZS.out, HZY.out, HQ5.out, by rw [HKS.out]; exact HN5.out, HB5.out, HA5.out⟩
            case measure => simp [intOf]; omega
          | false =>
            have hks : kpL (a1, a2, a3, a4) s (k + 1) = kpL (a1, a2, a3, a4) s k ++ [((n, ys), e2)] := by
              rw [hsu, if_pos (show kpt (a1, a2, a3, a4) ((n, ys), e2) = true by unfold kpt; rw [show hasN (a1, a2, a3, a4).2.2.1 (a1, a2, a3, a4).2.2.2 ((n, ys), e2).1.1 = false from hh]; decide)]
            obtain ⟨us, hus⟩ : ∃ us, Z.map Prod.fst = us := ⟨_, rfl⟩
            obtain ⟨ms, hms⟩ : ∃ ms, (kpL (a1, a2, a3, a4) s k).map Prod.snd = ms := ⟨_, rfl⟩
            have hul : us.length = Z.length := by rw [← hus, List.length_map]
            have hmsl : ms.length = Z.length := by
              have h9 := congrArg List.length HZS.out
              rw [List.length_map, List.length_map] at h9
              rw [← hms, List.length_map]
              omega
            have hq5 : OwQS V5 w.heap.size (.slice ao Z.length co) us := hus ▸ gown_below HQO.out HC5.out
            have hn5 : OwNS V5 w.heap.size (.slice az Z.length cz) ms := hms ▸ gown_below HNO.out HC5.out
            obtain ⟨g9, cap9, w9, hr9, hq9, hb9, hc9, hv9⟩ := run_q V5 w.heap.size (.slice ao Z.length co) us hq5 (n, ya, yl, yc) (by omega) HB5.out.size (ty := 30)
            have hn9 : OwNS w9 w.heap.size (.slice az Z.length cz) ms := own_chg hn5 hc9 (fun g hg e => (own_blk hn5 hg).ne (own_blk hq5 e) (by decide) rfl)
            have hbw9 : Below w.heap.size w w9 := HB5.out.trans hb9
            obtain ⟨g8, cap8, w8, hr8, hn8, hb8, hc8, hv8⟩ := run_n w9 w.heap.size (.slice az Z.length cz) ms hn9 e2 (by omega) hbw9.size (ty := 31)
            have hq8 : OwQS w8 w.heap.size (.slice (some ⟨g9, 0, none⟩) (us.length + 1) cap9) (us ++ [(n, ya, yl, yc)]) := own_chg hq9 hc8 (fun g hg e => (own_blk hq9 hg).ne (own_blk hn9 e) (by decide) rfl)
            rw [hul] at hr9 hq9 hq8
            rw [hmsl] at hr8 hn8
            obtain ⟨l1, l2, l3⟩ := HGL.out
            obtain ⟨d3, d4, q0, q1, q2⟩ := HC3.out
            have hx := HX0.out
            have a3' : V5.cell? ⟨b, 3, none⟩ = some (.slice (some ⟨gO, 0, none⟩) Y.length cO) := (HC5.out.cell (p := ⟨b, 3, none⟩) l3).trans d3
            have a0' : V5.cell? ⟨gO, k * 2, none⟩ = some (.int .i64 n) := (HC5.out.cell (p := ⟨gO, k * 2, none⟩) l1).trans q0
            have a1' : V5.cell? ⟨gO, k * 2 + 1, none⟩ = some (.slice ya yl yc) := (HC5.out.cell (p := ⟨gO, k * 2 + 1, none⟩) l1).trans q1
            have b4 : w9.cell? ⟨b, 4, none⟩ = some (.slice (some ⟨gS, 0, none⟩) M.length cS) := (hbw9.cell (p := ⟨b, 4, none⟩) (hx.lt b hx.fb)).trans ((HB.out.cell (p := ⟨b, 4, none⟩) (hx.lt b hx.fb)).symm.trans d4)
            have b2 : w9.cell? ⟨gS, k, none⟩ = some (.int .i64 e2) := (hbw9.cell (p := ⟨gS, k, none⟩) (hx.lt gS (hx.sf gS rfl))).trans ((HB.out.cell (p := ⟨gS, k, none⟩) (hx.lt gS (hx.sf gS rfl))).symm.trans q2)
            have HA8 : Hid (AkB w8 g0 (a1, a2, a3, a4)) := by
              have h9 := HA5.out.chg hc9 (fun e => (own_blk hq5 e).ne HA5.out.blk (by decide) rfl)
              exact h9.chg hc8 (fun e => (own_blk hn9 e).ne h9.blk (by decide) rfl)
            have HQ8 : Hid (OwQS w8 w.heap.size (.slice (some ⟨g9, 0, none⟩) (Z.length + 1) cap9) ((Z ++ [((n, ya, yl, yc), (n, ys))]).map Prod.fst)) := by
              show OwQS _ _ _ _
              rw [List.map_append, hus]
              exact hq8
            have HN8 : Hid (OwNS w8 w.heap.size (.slice (some ⟨g8, 0, none⟩) (Z.length + 1) cap8) ((kpL (a1, a2, a3, a4) s (k + 1)).map Prod.snd)) := by
              show OwNS _ _ _ _
              rw [hks, List.map_append, hms]
              exact hn8
            have HB8 : Hid (Below w.heap.size w w8) := hbw9.trans hb8
            have HZ8 : Hid ((Z ++ [((n, ya, yl, yc), (n, ys))]).map Prod.snd = (kpL (a1, a2, a3, a4) s (k + 1)).map Prod.fst) := by
              show _ = _
              rw [hks, List.map_append, List.map_append, HZS.out]
              rfl
            have HY8 : Hid (∀ z ∈ Z ++ [((n, ya, yl, yc), (n, ys))], z ∈ Y) := fun z hz => by
              rcases List.mem_append.1 hz with h1 | h1
              · exact HZY.out z h1
              · rw [List.mem_singleton.1 h1]; exact List.mem_of_getElem? HYE.out.1
            have hzl : (Z ++ [((n, ya, yl, yc), (n, ys))]).length = Z.length + 1 := by rw [List.length_append]; rfl
            clear hsu hks hus hms hul hmsl hq5 hn5 hq9 hb9 hc9 hv9 hn9 hbw9 hn8 hb8 hc8 hv8 hq8 l1 l2 l3 d3 d4 q0 q1 q2 hx
            go_upto_region 10 with (at_builtin; refine app_go rfl (.tmp 47) (.tmp 55) 30 rfl _ _ _ _ rfl rfl hr9 ?_)
            clear a3' a0' a1' hr9
            go_wp2_with (at_builtin; refine app_go rfl (.tmp 57) (.tmp 65) 31 rfl _ _ _ _ rfl rfl hr8 ?_)
            go_roundw
            case rel => exact ⟨k + 1, some ⟨g9, 0, none⟩, cap9, some ⟨g8, 0, none⟩, cap8, Z ++ [((n, ya, yl, yc), (n, ys))], by omega, by rw [hzl]; omega, by go_num, by rw [hzl], by rw [hzl], HZ8.out, HY8.out, by rw [hzl]; exact HQ8.out, by rw [hzl]; exact HN8.out, HB8.out, HA8.out⟩
            case measure => simp [intOf]; omega
        · obtain rfl : k = Y.length := by omega
          have hll : s.L.length = Y.length := by
            have h9 := congrArg List.length HY.out
            unfold Sd.out at h9
            rw [List.length_map, List.length_map] at h9
            exact h9
          have hkl : kpL (a1, a2, a3, a4) s Y.length = s.L.filter (kpt (a1, a2, a3, a4)) := by
            unfold kpL
            rw [List.take_of_length_le (by omega)]
          have hnl : Z.length = (s.L.filter (kpt (a1, a2, a3, a4))).length := by
            have h9 := congrArg List.length HZS.out
            rw [List.length_map, List.length_map, hkl] at h9
            exact h9
          have hgn : ((gtN s (a1, a2, a3, a4) : Nat) : Int) = (Y.length : Int) - Z.length := by
            unfold gtN
            rw [HE1.out, hll, hnl]
            have := List.length_filter_le (kpt (a1, a2, a3, a4)) s.L
            show (((Y.length - (s.L.filter (kpt (a1, a2, a3, a4))).length : Nat)) : Int) = _
            omega
          have hxm := hx.mono (K' := FN K w wr) (fun y hy => .inl hy) (FN.lt HX0.out.lt HB.out.size)
          have hqo : OwQ wr (.slice ao Z.length co) (Z.map Prod.fst) := OwQS.to HQO.out
          have hno : OwN wr (.slice az Z.length cz) ((kpL (a1, a2, a3, a4) s Y.length).map Prod.snd) := OwNS.to HNO.out
          have hx2 := hxm.oset (Chg.refl _ wr) hqo (fun g hg => .inl (.inr (HQO.out.lt g hg))) (fun z hz => hxm.yk z (HZY.out z hz))
          have hno2 : OwN (wr.setCell ⟨b, 3, none⟩ (.slice ao Z.length co)) (.slice az Z.length cz) ((kpL (a1, a2, a3, a4) s Y.length).map Prod.snd) := own_chg hno (chg_pt _ _ _ _) (fun g hg e => by subst e; exact (own_blk hno hg).ne hx.bt (by decide) rfl)
          have hx3 := hx2.sset (Chg.refl _ _) hno2 (fun g hg => .inl (.inl (.inr (HNO.out.lt g hg))))
          have hx4 := hx3.same (s' := gtS s (a1, a2, a3, a4)) (by rw [HE1.out]) (by rw [HE1.out]) (by rw [HE1.out]) (by rw [HE1.out])
          rw [hkl] at hx4
          have hcg : Chg K w ((wr.setCell ⟨b, 3, none⟩ (.slice ao Z.length co)).setCell ⟨b, 4, none⟩ (.slice az Z.length cz)) := ((chg0 HB.out : Chg K w wr).setCell (.inl HX0.out.fb) _).setCell (.inl HX0.out.fb) _
          have HX4 := Lib.hid hx4
          have HCG := Lib.hid hcg
          have HGN := Lib.hid hgn
          have hsz1 : (wr.setCell ⟨b, 3, none⟩ (.slice ao Z.length co)).heap.size = wr.heap.size := by simp [World.setCell]
          have HKK : Hid (∀ k, FN (FN (FN K w wr) wr wr) (wr.setCell ⟨b, 3, none⟩ (.slice ao Z.length co)) (wr.setCell ⟨b, 3, none⟩ (.slice ao Z.length co)) k → K k ∨ w.heap.size ≤ k) := fun y hy => by
            have := HB.out.size
            rcases hy with ((hy | hy) | hy) | hy
            · exact .inl hy
            · exact .inr hy.1
            · omega
            · omega
          have hou : Hid ((gtS s (a1, a2, a3, a4)).out = Z.map Prod.snd) := by
            show _ = _
            rw [HE1.out, HZS.out, hkl]
            rfl
          have hll2 : Hid ((gtS s (a1, a2, a3, a4)).L.map Prod.snd = (s.L.filter (kpt (a1, a2, a3, a4))).map Prod.snd) := by
            show _ = _
            rw [HE1.out]
          clear hll hkl hnl hgn hxm hqo hno hx2 hno2 hx3 hx4 hcg hsz1 c0 c1 c2 c5 hx
          go_wp2_with fail
          go_ret
          refine ⟨?_, HCG.out, _, Z, .slice ao Z.length co, .slice az Z.length cz, ?_, hou.out, HKK.out⟩
          · rw [HGN.out]; go_num
          · rw [hll2.out]; exact HX4.out
  · have HQ : Hid (false = true ↔ AkOne (a1, a2, a3, a4)) := ⟨fun h => (by cases h), fun h => absurd h hone⟩
    obtain ⟨e1, e2⟩ := got_noone (s := s) hone
    have HE1 := Lib.hid e1
    have HE2 := Lib.hid e2
    clear e1 e2
    go_enter Try.func19, Try.ntmps19
    go_upto_region 1 with (fail)
    rw [HW1.out]
    try simp only [HG0.out]
    refine wp_region_typed (C := fun w' => Below W1.heap.size W1 w') (X := fun w w' => Below w.heap.size w w') (n := 84) (by kernel_rfl) (by kernel_rfl) rfl (fun w => Below.refl _ w) (Below.refl _ _).drew ?_
    refine w_is (fun w => Below.refl _ w) _ (.inl rfl) (fun ρ w hC hc hfn hf => by have e3 : ρ (.tmp 3) = _ := hf 3 (by decide); (conv => lhs; simp [execOp, go_sem, hc, e3, kc w hC])) ?_
    refine w_call (Is _) (fun _ _ _ h _ => h) 41 (.inl rfl) (fun ρ w hC hc hfn hf => by have e9 : ρ (.tmp 9) = _ := hf 9 (by decide); exact ⟨_, by (conv => lhs; simp [execOp, resolve, invoke, go_sem, hc, hfn, e9]), tc_below hC (rone_fix a1 a2 a3 a4 false HQ.out w)⟩) ?_
    refine w_is (fun w => Below.refl _ w) _ (.inl rfl) (fun ρ w hC hc hfn hf => by have e10 : ρ (.tmp 10) = _ := hf 10 (by decide); (conv => lhs; simp [execOp, go_sem, hc, e10])) ?_
    refine w_is (fun w => Below.refl _ w) _ (.inl rfl) (fun ρ w hC hc hfn hf => by have e11 : ρ (.tmp 11) = _ := hf 11 (by decide); (conv => lhs; simp [execOp, go_sem, hc, e11])) ?_
    refine w_skip rfl rfl (known_is rfl) ?_
    refine w_skip rfl rfl (known_is rfl) ?_
    refine w_skip rfl rfl (known_is rfl) ?_
    refine w_skip rfl rfl (known_is rfl) ?_
    refine w_skip rfl rfl (known_is rfl) ?_
    refine w_skip rfl rfl (known_is rfl) ?_
    refine w_skip rfl rfl (known_is rfl) ?_
    refine w_skip rfl rfl (known_is rfl) ?_
    refine w_skip rfl rfl (known_is rfl) ?_
    refine w_skip rfl rfl (known_is rfl) ?_
    refine w_skip rfl rfl (known_is rfl) ?_
    refine w_skip rfl rfl (known_is rfl) ?_
    refine w_skip rfl rfl (known_is rfl) ?_
    refine w_is (fun w => Below.refl _ w) _ (.inl rfl) (fun ρ w hC hc hfn hf => by have e12 : ρ (.tmp 12) = _ := hf 12 (by decide); have e25 : ρ (.tmp 25) = _ := hf 25 (by decide); (conv => lhs; simp [execOp, go_sem, hc, e12, e25])) ?_
    intro A W4 hC hn hd hf
    have y0 : A.eval (.tmp 0) = _ := Eq.trans (hf 0) (by conv => lhs; simp [go_sem])
    have y1 : A.eval (.tmp 1) = _ := Eq.trans (hf 1) (by conv => lhs; simp [go_sem])
    have y2 : A.eval (.tmp 2) = _ := Eq.trans (hf 2) (by conv => lhs; simp [go_sem])
    have y3 : A.eval (.tmp 3) = _ := Eq.trans (hf 3) (by conv => lhs; simp [go_sem])
    have y4 : A.eval (.tmp 4) = _ := Eq.trans (hf 4) (by conv => lhs; simp [go_sem])
    have y5 : A.eval (.tmp 5) = _ := Eq.trans (hf 5) (by conv => lhs; simp [go_sem])
    have y6 : A.eval (.tmp 6) = _ := Eq.trans (hf 6) (by conv => lhs; simp [go_sem])
    have y7 : A.eval (.tmp 7) = _ := Eq.trans (hf 7) (by conv => lhs; simp [go_sem])
    have y8 : A.eval (.tmp 8) = _ := Eq.trans (hf 8) (by conv => lhs; simp [go_sem])
    have y9 : A.eval (.tmp 9) = _ := hf 9
    have y10 : A.eval (.tmp 10) = _ := hf 10
    have y11 : A.eval (.tmp 11) = _ := hf 11
    have y12 : A.eval (.tmp 12) = _ := hf 12
    have y13 : A.eval (.tmp 13) = _ := hf 13
    have y14 : A.eval (.tmp 14) = _ := hf 14
    have y15 : A.eval (.tmp 15) = _ := hf 15
    have y16 : A.eval (.tmp 16) = _ := hf 16
    have y17 : A.eval (.tmp 17) = _ := hf 17
    have y18 : A.eval (.tmp 18) = _ := hf 18
    have y19 : A.eval (.tmp 19) = _ := hf 19
    have y20 : A.eval (.tmp 20) = _ := hf 20
    have y21 : A.eval (.tmp 21) = _ := hf 21
    have y22 : A.eval (.tmp 22) = _ := hf 22
    have y23 : A.eval (.tmp 23) = _ := hf 23
    have y24 : A.eval (.tmp 24) = _ := hf 24
    have y25 : A.eval (.tmp 25) = _ := hf 25
    have y26 : A.eval (.tmp 26) = _ := hf 26
    have y27 : A.eval (.tmp 27) = _ := Eq.trans (hf 27) (by conv => lhs; simp [go_sem])
    have y28 : A.eval (.tmp 28) = _ := Eq.trans (hf 28) (by conv => lhs; simp [go_sem])
    have y29 : A.eval (.tmp 29) = _ := Eq.trans (hf 29) (by conv => lhs; simp [go_sem])
    have y30 : A.eval (.tmp 30) = _ := Eq.trans (hf 30) (by conv => lhs; simp [go_sem])
    have y31 : A.eval (.tmp 31) = _ := Eq.trans (hf 31) (by conv => lhs; simp [go_sem])
    have y32 : A.eval (.tmp 32) = _ := Eq.trans (hf 32) (by conv => lhs; simp [go_sem])
    have y33 : A.eval (.tmp 33) = _ := Eq.trans (hf 33) (by conv => lhs; simp [go_sem])
    have y34 : A.eval (.tmp 34) = _ := Eq.trans (hf 34) (by conv => lhs; simp [go_sem])
    have y35 : A.eval (.tmp 35) = _ := Eq.trans (hf 35) (by conv => lhs; simp [go_sem])
    have y36 : A.eval (.tmp 36) = _ := Eq.trans (hf 36) (by conv => lhs; simp [go_sem])
    have y37 : A.eval (.tmp 37) = _ := Eq.trans (hf 37) (by conv => lhs; simp [go_sem])
    have y38 : A.eval (.tmp 38) = _ := Eq.trans (hf 38) (by conv => lhs; simp [go_sem])
    have y39 : A.eval (.tmp 39) = _ := Eq.trans (hf 39) (by conv => lhs; simp [go_sem])
    have y40 : A.eval (.tmp 40) = _ := Eq.trans (hf 40) (by conv => lhs; simp [go_sem])
    have y41 : A.eval (.tmp 41) = _ := Eq.trans (hf 41) (by conv => lhs; simp [go_sem])
    have y42 : A.eval (.tmp 42) = _ := Eq.trans (hf 42) (by conv => lhs; simp [go_sem])
    have y43 : A.eval (.tmp 43) = _ := Eq.trans (hf 43) (by conv => lhs; simp [go_sem])
    have y44 : A.eval (.tmp 44) = _ := Eq.trans (hf 44) (by conv => lhs; simp [go_sem])
    have y45 : A.eval (.tmp 45) = _ := Eq.trans (hf 45) (by conv => lhs; simp [go_sem])
    have y46 : A.eval (.tmp 46) = _ := Eq.trans (hf 46) (by conv => lhs; simp [go_sem])
    have y47 : A.eval (.tmp 47) = _ := Eq.trans (hf 47) (by conv => lhs; simp [go_sem])
    have y48 : A.eval (.tmp 48) = _ := Eq.trans (hf 48) (by conv => lhs; simp [go_sem])
    have y49 : A.eval (.tmp 49) = _ := Eq.trans (hf 49) (by conv => lhs; simp [go_sem])
    have y50 : A.eval (.tmp 50) = _ := Eq.trans (hf 50) (by conv => lhs; simp [go_sem])
    have y51 : A.eval (.tmp 51) = _ := Eq.trans (hf 51) (by conv => lhs; simp [go_sem])
    have y52 : A.eval (.tmp 52) = _ := Eq.trans (hf 52) (by conv => lhs; simp [go_sem])
    have y53 : A.eval (.tmp 53) = _ := Eq.trans (hf 53) (by conv => lhs; simp [go_sem])
    have y54 : A.eval (.tmp 54) = _ := Eq.trans (hf 54) (by conv => lhs; simp [go_sem])
    have y55 : A.eval (.tmp 55) = _ := Eq.trans (hf 55) (by conv => lhs; simp [go_sem])
    have y56 : A.eval (.tmp 56) = _ := Eq.trans (hf 56) (by conv => lhs; simp [go_sem])
    have y57 : A.eval (.tmp 57) = _ := Eq.trans (hf 57) (by conv => lhs; simp [go_sem])
    have y58 : A.eval (.tmp 58) = _ := Eq.trans (hf 58) (by conv => lhs; simp [go_sem])
    have y59 : A.eval (.tmp 59) = _ := Eq.trans (hf 59) (by conv => lhs; simp [go_sem])
    have y60 : A.eval (.tmp 60) = _ := Eq.trans (hf 60) (by conv => lhs; simp [go_sem])
    have y61 : A.eval (.tmp 61) = _ := Eq.trans (hf 61) (by conv => lhs; simp [go_sem])
    have y62 : A.eval (.tmp 62) = _ := Eq.trans (hf 62) (by conv => lhs; simp [go_sem])
    have y63 : A.eval (.tmp 63) = _ := Eq.trans (hf 63) (by conv => lhs; simp [go_sem])
    have y64 : A.eval (.tmp 64) = _ := Eq.trans (hf 64) (by conv => lhs; simp [go_sem])
    have y65 : A.eval (.tmp 65) = _ := Eq.trans (hf 65) (by conv => lhs; simp [go_sem])
    have y66 : A.eval (.tmp 66) = _ := Eq.trans (hf 66) (by conv => lhs; simp [go_sem])
    have y67 : A.eval (.tmp 67) = _ := Eq.trans (hf 67) (by conv => lhs; simp [go_sem])
    have y68 : A.eval (.tmp 68) = _ := Eq.trans (hf 68) (by conv => lhs; simp [go_sem])
    have y69 : A.eval (.tmp 69) = _ := Eq.trans (hf 69) (by conv => lhs; simp [go_sem])
    have y70 : A.eval (.tmp 70) = _ := Eq.trans (hf 70) (by conv => lhs; simp [go_sem])
    have y71 : A.eval (.tmp 71) = _ := Eq.trans (hf 71) (by conv => lhs; simp [go_sem])
    have y72 : A.eval (.tmp 72) = _ := Eq.trans (hf 72) (by conv => lhs; simp [go_sem])
    have y73 : A.eval (.tmp 73) = _ := Eq.trans (hf 73) (by conv => lhs; simp [go_sem])
    have y74 : A.eval (.tmp 74) = _ := Eq.trans (hf 74) (by conv => lhs; simp [go_sem])
    have y75 : A.eval (.tmp 75) = _ := Eq.trans (hf 75) (by conv => lhs; simp [go_sem])
    have y76 : A.eval (.tmp 76) = _ := Eq.trans (hf 76) (by conv => lhs; simp [go_sem])
    have y77 : A.eval (.tmp 77) = _ := Eq.trans (hf 77) (by conv => lhs; simp [go_sem])
    have y78 : A.eval (.tmp 78) = _ := Eq.trans (hf 78) (by conv => lhs; simp [go_sem])
    have y79 : A.eval (.tmp 79) = _ := Eq.trans (hf 79) (by conv => lhs; simp [go_sem])
    have y80 : A.eval (.tmp 80) = _ := Eq.trans (hf 80) (by conv => lhs; simp [go_sem])
    have y81 : A.eval (.tmp 81) = _ := Eq.trans (hf 81) (by conv => lhs; simp [go_sem])
    have y82 : A.eval (.tmp 82) = _ := Eq.trans (hf 82) (by conv => lhs; simp [go_sem])
    have y83 : A.eval (.tmp 83) = _ := Eq.trans (hf 83) (by conv => lhs; simp [go_sem])
    clear hf
    have hA := frame_eq hn
    rw [show List.range 84 = [0, 1, 2, 3, 4, 5, 6, 7, 8, 9, 10, 11, 12, 13, 14, 15, 16, 17, 18, 19, 20, 21, 22, 23, 24, 25, 26, 27, 28, 29, 30, 31, 32, 33, 34, 35, 36, 37, 38, 39, 40, 41, 42, 43, 44, 45, 46, 47, 48, 49, 50, 51, 52, 53, 54, 55, 56, 57, 58, 59, 60, 61, 62, 63, 64, 65, 66, 67, 68, 69, 70, 71, 72, 73, 74, 75, 76, 77, 78, 79, 80, 81, 82, 83] from rfl, hd] at hA
    simp only [List.map_cons, List.map_nil, y0, y1, y2, y3, y4, y5, y6, y7, y8, y9, y10, y11, y12, y13, y14, y15, y16, y17, y18, y19, y20, y21, y22, y23, y24, y25, y26, y27, y28, y29, y30, y31, y32, y33, y34, y35, y36, y37, y38, y39, y40, y41, y42, y43, y44, y45, y46, y47, y48, y49, y50, y51, y52, y53, y54, y55, y56, y57, y58, y59, y60, y61, y62, y63, y64, y65, y66, y67, y68, y69, y70, y71, y72, y73, y74, y75, y76, y77, y78, y79, y80, y81, y82, y83] at hA
    clear y0 y1 y2 y3 y4 y5 y6 y7 y8 y9 y10 y11 y12 y13 y14 y15 y16 y17 y18 y19 y20 y21 y22 y23 y24 y25 y26 y27 y28 y29 y30 y31 y32 y33 y34 y35 y36 y37 y38 y39 y40 y41 y42 y43 y44 y45 y46 y47 y48 y49 y50 y51 y52 y53 y54 y55 y56 y57 y58 y59 y60 y61 y62 y63 y64 y65 y66 y67 y68 y69 y70 y71 y72 y73 y74 y75 y76 y77 y78 y79 y80 y81 y82 y83
    clear hn hd
    subst hA
    have HC := Lib.hid hC
    clear kc hC
    go_wp2_with fail
    go_ret
    rw [HE1.out, HE2.out]
    have hb4 := HB1.out.trans (HC.out.mono HB1.out.size)
    refine ⟨rfl, chg0 hb4, K, Y, .slice aO Y.length cO, .slice aS M.length cS, ?_, HY.out, fun k hk => .inl hk⟩
    rw [HM.out]
    exact HX1.out.below HC.out
end
end Go.Proofs.Yticjeknadddhoaa

namespace Go.Proofs.Yticjeknadddhoaa
set_option maxRecDepth 100000
set_option linter.unusedVariables false
open Go.RowKit

theorem rpack2 (v : Value) (ys : List Ob) (first : Int) (w : World) (hy : Os w v ys) (hok : AllOk ys) (hl : ys.length ≤ 1024) :
    Calls Try.prog 31 #[v, .int .i64 first, .int .i64 512] w fun e w' => ∃ a c, e = .returned (.tuple #[.slice a (packL 512 ys first).length c, .int .i64 0]) ∧ RowB w' w.heap.size (.slice a (packL 512 ys first).length c) (packL 512 ys first) ∧ Below w.heap.size w w' := by
  have hE : packE ys 512 = 0 := by unfold packE; rw [if_pos ⟨by decide, by decide, hok⟩, if_neg (by omega)]
  have hB : packB ys first 512 = packL 512 ys first := by unfold packB; rw [if_pos hE]
  refine (pack_any v ys first 512 w hy (by omega)).mono ?_
  rintro e w' ⟨r, rfl, h1, h2⟩
  rw [hB] at h1
  rw [hE]
  obtain ⟨a, c, rfl⟩ := h1.form'
  exact ⟨a, c, rfl, h1, h2⟩
theorem os_tail {w : World} {g c n : Nat} {W : List Ob} (h : OwO w 0 (.slice (some ⟨g, 0, none⟩) W.length c) W) (hn : n ≤ W.length) : W.length ≤ c ∧ ∃ A0, (if c = n then (some ⟨g, 0, none⟩ : Option Addr) else some ⟨g, n * 12, none⟩) = some A0 ∧ Os w (.slice (some A0) (W.length - n) (c - n)) (W.drop n) := by
  have hcap : W.length ≤ c := by
    rcases h.2 with ⟨h1, _⟩ | ⟨g', cap', cur, hv, hb, hg, hnc, hcm, hcs, htake⟩
    · cases h1
    · simp only [Value.slice.injEq] at hv; omega
  refine ⟨hcap, ?_⟩
  by_cases hc : c = n
  · refine ⟨⟨g, 0, none⟩, if_pos hc, .inl ⟨some ⟨g, 0, none⟩, c - n, ?_, (fun e => nomatch e), List.drop_of_length_le (by omega)⟩⟩
    rw [show W.length - n = 0 by omega]
  · refine ⟨⟨g, n * 12, none⟩, if_neg hc, .inr ⟨g, n * 12, c - n, by rw [List.length_drop], by rw [List.length_drop]; omega, (World.ownsRow.lt h g rfl).2, fun i hi j hj => ?_⟩⟩
    rw [List.length_drop] at hi
    rw [show n * 12 + i * 12 + j = (n + i) * 12 + j by omega, World.ownsRow.cellAt h ((n + i) * 12 + j) (by omega), flat_at W (n + i) j (by omega) hj]
    simp [List.getD]
theorem cnt_one {s : Sd} {k : Nat} (hk : k < (sdT s).length) : cnt ((sdT s).take (k + 1)) = cnt ((sdT s).take k) + ((sdT s).getD k zb).2.length := by
  rw [sdT_one hk, cnt_app]
  congr 1
theorem xsend_fin {w0 W w14 : World} {K Kk : Nat → Prop} {b : Nat} {s : Sd} {Y Yk : Ys} {M ms : List Int} {vW vO vS ov r : Value} {S : Nat} (hx : XZ W Kk b { s with nx := numAt s.nx (sdT s).length } (Y ++ Yk) ms vW vO vS) (hY : s.out = Y.map Prod.snd) (hM : s.L.map Prod.snd = M) (hms : M ++ List.replicate (sdT s).length 1 = ms) (hyk : Yk.map Prod.snd = sdT s) (hq : OwQS W S ov (Yk.map Prod.fst)) (hK : ∀ k, Kk k → K k ∨ w0.heap.size ≤ k) (hc : Chg K w0 W) (hb : K b) (h14 : Below W.heap.size W w14) (ho : OwO w14 W.heap.size r (s.W.drop (cnt (sdT s)))) :
    Bts (w14.setCell ⟨b, 2, none⟩ r) ov (sdT s) ∧ Chg K w0 (w14.setCell ⟨b, 2, none⟩ r) ∧ ∃ K' Y' vW' vO' vS', XZ (w14.setCell ⟨b, 2, none⟩ r) K' b (sdS s) Y' ((sdS s).L.map Prod.snd) vW' vO' vS' ∧ (sdS s).out = Y'.map Prod.snd ∧ ∀ k, K' k → K k ∨ w0.heap.size ≤ k := by
  have hmsl : (sdS s).L.map Prod.snd = ms := by
    show (s.L ++ (sdT s).map fun p => (p, (1 : Int))).map Prod.snd = _
    rw [List.map_append, hM, List.map_map, ← hms]
    congr 1
    exact List.map_const' ..
  have hout : (sdS s).out = (Y ++ Yk).map Prod.snd := by
    rw [List.map_append, hyk, ← hY]
    unfold Sd.out sdS
    rw [List.map_append, List.map_map]
    congr 1
    exact List.map_id _
  have x14 := hx.wset (chg0 h14) (vW' := r) (W' := s.W.drop (cnt (sdT s))) (gown_mono ho (Nat.zero_le _)) (fun g hg => .inr (World.ownsRow.lt ho g hg).1)
  have x15 := x14.same (s' := sdS s) rfl rfl rfl rfl
  have hq14 : OwQS w14 S ov (Yk.map Prod.fst) := gown_below hq h14
  have hq15 : OwQS (w14.setCell ⟨b, 2, none⟩ r) S ov (Yk.map Prod.fst) := own_chg hq14 (chg_pt _ _ _ _) (fun g hg e => by subst e; exact (own_blk hq14 hg).ne (hx.below h14).bt (by decide) rfl)
  refine ⟨?_, (hc.trans (G := fun _ => False) (chg0 h14) (fun _ _ e => e.elim)).setCell (.inl hb) _, _, _, _, _, _, by rw [hmsl]; exact x15, hout, fun k hk => ?_⟩
  · rw [← hyk]
    exact yk_bts (OwQS.to hq15) (fun y hy => x15.yk y (List.mem_append_right _ hy))
  · have := hc.size
    rcases hk with hk | hk
    · exact hK k hk
    · exact .inr (by omega)
section
variable {w0 : World} {K : Nat → Prop} {b : Nat} {s : Sd} {Y : Ys} {M : List Int} {vW vO vS : Value}
set_option maxHeartbeats 16000000 in
theorem xsend_any (h : XZ w0 K b s Y M vW vO vS) (hY : s.out = Y.map Prod.snd) (hM : s.L.map Prod.snd = M) (hok : SdOk s) : Calls Try.prog 15 #[.pointer (some ⟨b, 0, none⟩)] w0 fun e w' => ∃ r, e = .returned r ∧ Bts w' r (sdT s) ∧ Chg K w0 w' ∧ ∃ K' Y' vW' vO' vS', XZ w' K' b (sdS s) Y' ((sdS s).L.map Prod.snd) vW' vO' vS' ∧ (sdS s).out = Y'.map Prod.snd ∧ ∀ k, K' k → K k ∨ w0.heap.size ≤ k := by
  obtain ⟨aW, cW, rfl⟩ := h.wform
  obtain ⟨us0, hus0⟩ : ∃ us, Y.map Prod.fst = us := ⟨_, rfl⟩
  have hot0 := h.ot
  rw [hus0] at hot0
  obtain ⟨aO, cO, rfl⟩ := own_form hot0
  obtain ⟨aS, cS, rfl⟩ := h.sform
  have hll : s.L.length = Y.length := by
    have h9 := congrArg List.length hY
    unfold Sd.out at h9
    rw [List.length_map, List.length_map] at h9
    exact h9
  have hyl : Y.length ≤ 16 := by
    have h1 := out_le hok
    have h2 := hok.win
    rw [hY, List.length_map] at h1
    omega
  have hul0 : us0.length = Y.length := by rw [← hus0, List.length_map]
  have hml : M.length = Y.length := by rw [← hM, List.length_map]; exact hll
  have hm16 : (sdT s).length ≤ 16 := by
    have h1 := (sdT_top hok).2
    have h2 := hok.win
    have h3 := far_bd (fstN s) s.nx
    omega
  obtain ⟨P, hP⟩ : ∃ P, packL 512 s.W s.nx = P := ⟨_, rfl⟩
  have hpl : P.length ≤ 1024 := by rw [← hP]; exact Nat.le_trans (packL_le 512 s.W s.nx) hok.wl
  obtain ⟨f, hf⟩ : ∃ f, fstN s = f := ⟨_, rfl⟩
  have HF0 : Hid (∀ y, Y[0]? = some y → y.2.1 = f) := fun y hy => by rw [← hf]; exact (fst_y hY hy).symm
  have HF1 : Hid (Y = [] → s.nx = f) := fun hy => by rw [← hf]; exact (fst_n hY hy).symm
  have HX0 := Lib.hid h
  have HOK := Lib.hid hok
  have HY := Lib.hid hY
  have HM := Lib.hid hM
  have HPK := Lib.hid hP
  have HFS := Lib.hid hf
  have HUS0 := Lib.hid hus0
  have HOS := Lib.hid h.wt.os
  have HWT : Hid (s.W.length ≤ 1024) := hok.wl
  have HAW : Hid (AllOk s.W) := hok.wok
  obtain ⟨c0, c1, c2, c3, c4, c5, cf⟩ := h.cells
  have hbl := h.lt b h.fb
  have kc : ∀ w', Below w0.heap.size w0 w' → w'.cell? ⟨b, 2, none⟩ = some (.slice aW s.W.length cW) ∧ w'.cell? ⟨b, 5, none⟩ = some (.int .i64 s.nx) := fun w' hb => ⟨(hb.cell (p := ⟨b, 2, none⟩) hbl).trans c2, (hb.cell (p := ⟨b, 5, none⟩) hbl).trans c5⟩
  clear h hok hP hY hM hf hus0 hot0 hll c0 c1 c2 c3 c4 c5 cf hbl
  go_enter Try.func15, Try.ntmps15
  go_upto_region 1 with (fail)
  refine T3.wp_region_tail (C := fun w' => Below w0.heap.size w0 w') (X := fun _ w w' => Below w.heap.size w w') (n := 100) 13 (by kernel_rfl) (by kernel_rfl) (by kernel_rfl) (by kernel_rfl) rfl (fun _ w => Below.refl _ w) (Below.refl _ _).drew ?_
  simp only [List.take_succ_cons, List.take_zero, List.drop_succ_cons, List.drop_zero]
  refine T3.w_is (fun _ w => Below.refl _ w) rfl _ (.inl rfl) (fun ρ w hC hc hfn hf => by have e0 : ρ (.tmp 0) = _ := hf 0 (by decide); (conv => lhs; simp [execOp, go_sem, hc, e0])) ?_
  refine T3.w_is (fun _ w => Below.refl _ w) rfl _ (.inl rfl) (fun ρ w hC hc hfn hf => by have e10 : ρ (.tmp 10) = _ := hf 10 (by decide); (conv => lhs; simp [execOp, go_sem, hc, e10])) ?_
  refine T3.w_is (fun _ w => Below.refl _ w) rfl _ (.inl rfl) (fun ρ w hC hc hfn hf => by have e11 : ρ (.tmp 11) = _ := hf 11 (by decide); (conv => lhs; simp [execOp, go_sem, hc, e11])) ?_
  refine T3.w_is (fun _ w => Below.refl _ w) rfl _ (.inl rfl) (fun ρ w hC hc hfn hf => by have e12 : ρ (.tmp 12) = _ := hf 12 (by decide); (conv => lhs; simp [execOp, go_sem, hc, e12, kc w hC])) ?_
  refine T3.w_is (fun _ w => Below.refl _ w) rfl _ (.inl rfl) (fun ρ w hC hc hfn hf => by have e0 : ρ (.tmp 0) = _ := hf 0 (by decide); (conv => lhs; simp [execOp, go_sem, hc, e0])) ?_
  refine T3.w_is (fun _ w => Below.refl _ w) rfl _ (.inl rfl) (fun ρ w hC hc hfn hf => by have e14 : ρ (.tmp 14) = _ := hf 14 (by decide); (conv => lhs; simp [execOp, go_sem, hc, e14])) ?_
  refine T3.w_is (fun _ w => Below.refl _ w) rfl _ (.inl rfl) (fun ρ w hC hc hfn hf => by have e15 : ρ (.tmp 15) = _ := hf 15 (by decide); (conv => lhs; simp [execOp, go_sem, hc, e15])) ?_
  refine T3.w_is (fun _ w => Below.refl _ w) rfl _ (.inl rfl) (fun ρ w hC hc hfn hf => by have e16 : ρ (.tmp 16) = _ := hf 16 (by decide); (conv => lhs; simp [execOp, go_sem, hc, e16, kc w hC])) ?_
  refine T3.w_call rfl (NewPk w0 P) (NewPk.keeps w0 _ 8) 31 (.inl rfl) (fun ρ w hC hc hfn hf => by have e13 : ρ (.tmp 13) = _ := hf 13 (by decide); have e17 : ρ (.tmp 17) = _ := hf 17 (by decide); exact ⟨_, by (conv => lhs; simp [execOp, resolve, invoke, go_sem, hc, hfn, e13, e17]), (rpack2 (.slice aW s.W.length cW) s.W s.nx w (HOS.out.below hC) HAW.out HWT.out).mono fun e w' h => by obtain ⟨a, c, h1, h2, h3⟩ := h; rw [HPK.out] at h1 h2; exact ⟨_, h1, hC.trans (h3.mono hC.size), h3, ⟨a, c, rfl, h2.mono0 hC.size⟩⟩⟩) ?_
  refine T3.w_make rfl (NewPk w0 P) (NewPk.keeps w0 _ 9) (.inl rfl) (fun ρ w hC hc hfn hf => by obtain ⟨a3, c3, e18, hr⟩ := (show (NewPk w0 P) (ρ (.tmp 18)) w from hf 18 (by decide)); exact ⟨_, _, by (conv => lhs; simp [execOp, go_sem, hc, e18]), hC, Below.refl _ _, ⟨a3, c3, rfl, hr⟩⟩) ?_
  refine T3.w_make rfl (NewRb w0 P) (NewRb.keeps w0 _ 10) (.inl rfl) (fun ρ w hC hc hfn hf => by obtain ⟨a4, c4, e9, hr⟩ := (show (NewPk w0 P) (ρ (.tmp 9)) w from hf 9 (by decide)); exact ⟨_, _, by (conv => lhs; simp [execOp, go_sem, hc, e9]), hC, Below.refl _ _, ⟨a4, c4, rfl, hr⟩⟩) ?_
  refine T3.w_is (fun _ w => Below.refl _ w) rfl _ (.inl rfl) (fun ρ w hC hc hfn hf => by obtain ⟨a4, c4, e9, hr⟩ := (show (NewPk w0 P) (ρ (.tmp 9)) w from hf 9 (by decide)); (conv => lhs; simp [execOp, go_sem, hc, e9])) ?_
  refine T3.w_make rfl (NewRb w0 P) (NewRb.keeps w0 _ 12) (.inl rfl) (fun ρ w hC hc hfn hf => by obtain ⟨a5, c5, e19, hr⟩ := (show (NewRb w0 P) (ρ (.tmp 19)) w from hf 19 (by decide)); exact ⟨_, _, by (conv => lhs; simp [execOp, go_sem, hc, e19]), hC, Below.refl _ _, ⟨a5, c5, rfl, hr⟩⟩) ?_
  intro A V5 hC hn hd hf
  obtain ⟨a3, c3, y18, -⟩ := (show (NewPk w0 P) (A.eval (.tmp 18)) V5 from hf 18)
  obtain ⟨a4, c4, y9, -⟩ := (show (NewPk w0 P) (A.eval (.tmp 9)) V5 from hf 9)
  obtain ⟨a6, c6, y19, -⟩ := (show (NewRb w0 P) (A.eval (.tmp 19)) V5 from hf 19)
  obtain ⟨a5, c5, y3, hrow⟩ := (show (NewRb w0 P) (A.eval (.tmp 3)) V5 from hf 3)
  have y0 : A.eval (.tmp 0) = _ := Eq.trans (hf 0) (by conv => lhs; simp [go_sem])
  have y1 : A.eval (.tmp 1) = _ := Eq.trans (hf 1) (by conv => lhs; simp [go_sem])
  have y2 : A.eval (.tmp 2) = _ := Eq.trans (hf 2) (by conv => lhs; simp [go_sem])
  have y4 : A.eval (.tmp 4) = _ := Eq.trans (hf 4) (by conv => lhs; simp [go_sem])
  have y5 : A.eval (.tmp 5) = _ := Eq.trans (hf 5) (by conv => lhs; simp [go_sem])
  have y6 : A.eval (.tmp 6) = _ := Eq.trans (hf 6) (by conv => lhs; simp [go_sem])
  have y7 : A.eval (.tmp 7) = _ := Eq.trans (hf 7) (by conv => lhs; simp [go_sem])
  have y8 : A.eval (.tmp 8) = _ := Eq.trans (hf 8) (by conv => lhs; simp [go_sem])
  have y10 : A.eval (.tmp 10) = _ := hf 10
  have y11 : A.eval (.tmp 11) = _ := hf 11
  have y12 : A.eval (.tmp 12) = _ := hf 12
  have y13 : A.eval (.tmp 13) = _ := hf 13
  have y14 : A.eval (.tmp 14) = _ := hf 14
  have y15 : A.eval (.tmp 15) = _ := hf 15
  have y16 : A.eval (.tmp 16) = _ := hf 16
  have y17 : A.eval (.tmp 17) = _ := hf 17
  have y20 : A.eval (.tmp 20) = _ := hf 20
  have y21 : A.eval (.tmp 21) = _ := Eq.trans (hf 21) (by conv => lhs; simp [go_sem])
  have y22 : A.eval (.tmp 22) = _ := Eq.trans (hf 22) (by conv => lhs; simp [go_sem])
  have y23 : A.eval (.tmp 23) = _ := Eq.trans (hf 23) (by conv => lhs; simp [go_sem])
  have y24 : A.eval (.tmp 24) = _ := Eq.trans (hf 24) (by conv => lhs; simp [go_sem])
  have y25 : A.eval (.tmp 25) = _ := Eq.trans (hf 25) (by conv => lhs; simp [go_sem])
  have y26 : A.eval (.tmp 26) = _ := Eq.trans (hf 26) (by conv => lhs; simp [go_sem])
  have y27 : A.eval (.tmp 27) = _ := Eq.trans (hf 27) (by conv => lhs; simp [go_sem])
  have y28 : A.eval (.tmp 28) = _ := Eq.trans (hf 28) (by conv => lhs; simp [go_sem])
  have y29 : A.eval (.tmp 29) = _ := Eq.trans (hf 29) (by conv => lhs; simp [go_sem])
  have y30 : A.eval (.tmp 30) = _ := Eq.trans (hf 30) (by conv => lhs; simp [go_sem])
  have y31 : A.eval (.tmp 31) = _ := Eq.trans (hf 31) (by conv => lhs; simp [go_sem])
  have y32 : A.eval (.tmp 32) = _ := Eq.trans (hf 32) (by conv => lhs; simp [go_sem])
  have y33 : A.eval (.tmp 33) = _ := Eq.trans (hf 33) (by conv => lhs; simp [go_sem])
  have y34 : A.eval (.tmp 34) = _ := Eq.trans (hf 34) (by conv => lhs; simp [go_sem])
  have y35 : A.eval (.tmp 35) = _ := Eq.trans (hf 35) (by conv => lhs; simp [go_sem])
  have y36 : A.eval (.tmp 36) = _ := Eq.trans (hf 36) (by conv => lhs; simp [go_sem])
  have y37 : A.eval (.tmp 37) = _ := Eq.trans (hf 37) (by conv => lhs; simp [go_sem])
  have y38 : A.eval (.tmp 38) = _ := Eq.trans (hf 38) (by conv => lhs; simp [go_sem])
  have y39 : A.eval (.tmp 39) = _ := Eq.trans (hf 39) (by conv => lhs; simp [go_sem])
  have y40 : A.eval (.tmp 40) = _ := Eq.trans (hf 40) (by conv => lhs; simp [go_sem])
  have y41 : A.eval (.tmp 41) = _ := Eq.trans (hf 41) (by conv => lhs; simp [go_sem])
  have y42 : A.eval (.tmp 42) = _ := Eq.trans (hf 42) (by conv => lhs; simp [go_sem])
  have y43 : A.eval (.tmp 43) = _ := Eq.trans (hf 43) (by conv => lhs; simp [go_sem])
  have y44 : A.eval (.tmp 44) = _ := Eq.trans (hf 44) (by conv => lhs; simp [go_sem])
  have y45 : A.eval (.tmp 45) = _ := Eq.trans (hf 45) (by conv => lhs; simp [go_sem])
  have y46 : A.eval (.tmp 46) = _ := Eq.trans (hf 46) (by conv => lhs; simp [go_sem])
  have y47 : A.eval (.tmp 47) = _ := Eq.trans (hf 47) (by conv => lhs; simp [go_sem])
  have y48 : A.eval (.tmp 48) = _ := Eq.trans (hf 48) (by conv => lhs; simp [go_sem])
  have y49 : A.eval (.tmp 49) = _ := Eq.trans (hf 49) (by conv => lhs; simp [go_sem])
  have y50 : A.eval (.tmp 50) = _ := Eq.trans (hf 50) (by conv => lhs; simp [go_sem])
  have y51 : A.eval (.tmp 51) = _ := Eq.trans (hf 51) (by conv => lhs; simp [go_sem])
  have y52 : A.eval (.tmp 52) = _ := Eq.trans (hf 52) (by conv => lhs; simp [go_sem])
  have y53 : A.eval (.tmp 53) = _ := Eq.trans (hf 53) (by conv => lhs; simp [go_sem])
  have y54 : A.eval (.tmp 54) = _ := Eq.trans (hf 54) (by conv => lhs; simp [go_sem])
  have y55 : A.eval (.tmp 55) = _ := Eq.trans (hf 55) (by conv => lhs; simp [go_sem])
  have y56 : A.eval (.tmp 56) = _ := Eq.trans (hf 56) (by conv => lhs; simp [go_sem])
  have y57 : A.eval (.tmp 57) = _ := Eq.trans (hf 57) (by conv => lhs; simp [go_sem])
  have y58 : A.eval (.tmp 58) = _ := Eq.trans (hf 58) (by conv => lhs; simp [go_sem])
  have y59 : A.eval (.tmp 59) = _ := Eq.trans (hf 59) (by conv => lhs; simp [go_sem])
  have y60 : A.eval (.tmp 60) = _ := Eq.trans (hf 60) (by conv => lhs; simp [go_sem])
  have y61 : A.eval (.tmp 61) = _ := Eq.trans (hf 61) (by conv => lhs; simp [go_sem])
  have y62 : A.eval (.tmp 62) = _ := Eq.trans (hf 62) (by conv => lhs; simp [go_sem])
  have y63 : A.eval (.tmp 63) = _ := Eq.trans (hf 63) (by conv => lhs; simp [go_sem])
  have y64 : A.eval (.tmp 64) = _ := Eq.trans (hf 64) (by conv => lhs; simp [go_sem])
  have y65 : A.eval (.tmp 65) = _ := Eq.trans (hf 65) (by conv => lhs; simp [go_sem])
  have y66 : A.eval (.tmp 66) = _ := Eq.trans (hf 66) (by conv => lhs; simp [go_sem])
  have y67 : A.eval (.tmp 67) = _ := Eq.trans (hf 67) (by conv => lhs; simp [go_sem])
  have y68 : A.eval (.tmp 68) = _ := Eq.trans (hf 68) (by conv => lhs; simp [go_sem])
  have y69 : A.eval (.tmp 69) = _ := Eq.trans (hf 69) (by conv => lhs; simp [go_sem])
  have y70 : A.eval (.tmp 70) = _ := Eq.trans (hf 70) (by conv => lhs; simp [go_sem])
  have y71 : A.eval (.tmp 71) = _ := Eq.trans (hf 71) (by conv => lhs; simp [go_sem])
  have y72 : A.eval (.tmp 72) = _ := Eq.trans (hf 72) (by conv => lhs; simp [go_sem])
  have y73 : A.eval (.tmp 73) = _ := Eq.trans (hf 73) (by conv => lhs; simp [go_sem])
  have y74 : A.eval (.tmp 74) = _ := Eq.trans (hf 74) (by conv => lhs; simp [go_sem])
  have y75 : A.eval (.tmp 75) = _ := Eq.trans (hf 75) (by conv => lhs; simp [go_sem])
  have y76 : A.eval (.tmp 76) = _ := Eq.trans (hf 76) (by conv => lhs; simp [go_sem])
  have y77 : A.eval (.tmp 77) = _ := Eq.trans (hf 77) (by conv => lhs; simp [go_sem])
  have y78 : A.eval (.tmp 78) = _ := Eq.trans (hf 78) (by conv => lhs; simp [go_sem])
  have y79 : A.eval (.tmp 79) = _ := Eq.trans (hf 79) (by conv => lhs; simp [go_sem])
  have y80 : A.eval (.tmp 80) = _ := Eq.trans (hf 80) (by conv => lhs; simp [go_sem])
  have y81 : A.eval (.tmp 81) = _ := Eq.trans (hf 81) (by conv => lhs; simp [go_sem])
  have y82 : A.eval (.tmp 82) = _ := Eq.trans (hf 82) (by conv => lhs; simp [go_sem])
  have y83 : A.eval (.tmp 83) = _ := Eq.trans (hf 83) (by conv => lhs; simp [go_sem])
  have y84 : A.eval (.tmp 84) = _ := Eq.trans (hf 84) (by conv => lhs; simp [go_sem])
  have y85 : A.eval (.tmp 85) = _ := Eq.trans (hf 85) (by conv => lhs; simp [go_sem])
  have y86 : A.eval (.tmp 86) = _ := Eq.trans (hf 86) (by conv => lhs; simp [go_sem])
  have y87 : A.eval (.tmp 87) = _ := Eq.trans (hf 87) (by conv => lhs; simp [go_sem])
  have y88 : A.eval (.tmp 88) = _ := Eq.trans (hf 88) (by conv => lhs; simp [go_sem])
  have y89 : A.eval (.tmp 89) = _ := Eq.trans (hf 89) (by conv => lhs; simp [go_sem])
  have y90 : A.eval (.tmp 90) = _ := Eq.trans (hf 90) (by conv => lhs; simp [go_sem])
  have y91 : A.eval (.tmp 91) = _ := Eq.trans (hf 91) (by conv => lhs; simp [go_sem])
  have y92 : A.eval (.tmp 92) = _ := Eq.trans (hf 92) (by conv => lhs; simp [go_sem])
  have y93 : A.eval (.tmp 93) = _ := Eq.trans (hf 93) (by conv => lhs; simp [go_sem])
  have y94 : A.eval (.tmp 94) = _ := Eq.trans (hf 94) (by conv => lhs; simp [go_sem])
  have y95 : A.eval (.tmp 95) = _ := Eq.trans (hf 95) (by conv => lhs; simp [go_sem])
  have y96 : A.eval (.tmp 96) = _ := Eq.trans (hf 96) (by conv => lhs; simp [go_sem])
  have y97 : A.eval (.tmp 97) = _ := Eq.trans (hf 97) (by conv => lhs; simp [go_sem])
  have y98 : A.eval (.tmp 98) = _ := Eq.trans (hf 98) (by conv => lhs; simp [go_sem])
  have y99 : A.eval (.tmp 99) = _ := Eq.trans (hf 99) (by conv => lhs; simp [go_sem])
  clear hf
  have hA := frame_eq hn
  rw [show List.range 100 = [0, 1, 2, 3, 4, 5, 6, 7, 8, 9, 10, 11, 12, 13, 14, 15, 16, 17, 18, 19, 20, 21, 22, 23, 24, 25, 26, 27, 28, 29, 30, 31, 32, 33, 34, 35, 36, 37, 38, 39, 40, 41, 42, 43, 44, 45, 46, 47, 48, 49, 50, 51, 52, 53, 54, 55, 56, 57, 58, 59, 60, 61, 62, 63, 64, 65, 66, 67, 68, 69, 70, 71, 72, 73, 74, 75, 76, 77, 78, 79, 80, 81, 82, 83, 84, 85, 86, 87, 88, 89, 90, 91, 92, 93, 94, 95, 96, 97, 98, 99] from rfl, hd] at hA
  simp only [List.map_cons, List.map_nil, y0, y1, y2, y3, y4, y5, y6, y7, y8, y9, y10, y11, y12, y13, y14, y15, y16, y17, y18, y19, y20, y21, y22, y23, y24, y25, y26, y27, y28, y29, y30, y31, y32, y33, y34, y35, y36, y37, y38, y39, y40, y41, y42, y43, y44, y45, y46, y47, y48, y49, y50, y51, y52, y53, y54, y55, y56, y57, y58, y59, y60, y61, y62, y63, y64, y65, y66, y67, y68, y69, y70, y71, y72, y73, y74, y75, y76, y77, y78, y79, y80, y81, y82, y83, y84, y85, y86, y87, y88, y89, y90, y91, y92, y93, y94, y95, y96, y97, y98, y99] at hA
  clear y0 y1 y2 y3 y4 y5 y6 y7 y8 y9 y10 y11 y12 y13 y14 y15 y16 y17 y18 y19 y20 y21 y22 y23 y24 y25 y26 y27 y28 y29 y30 y31 y32 y33 y34 y35 y36 y37 y38 y39 y40 y41 y42 y43 y44 y45 y46 y47 y48 y49 y50 y51 y52 y53 y54 y55 y56 y57 y58 y59 y60 y61 y62 y63 y64 y65 y66 y67 y68 y69 y70 y71 y72 y73 y74 y75 y76 y77 y78 y79 y80 y81 y82 y83 y84 y85 y86 y87 y88 y89 y90 y91 y92 y93 y94 y95 y96 y97 y98 y99
  clear hn hd
  subst hA
  have HC5 := Lib.hid hC
  have HROW := Lib.hid hrow
  have CF := Lib.hid (xfirst_any (HX0.out.below hC) f HF0.out HF1.out)
  clear kc hC hrow
  go_wp2_with fail
  refine CF.out.mono ?_
  rintro e V6 ⟨rfl, rfl⟩
  go_wp2_with fail
  go_loopw [6, 7, 8] (fun ov nv iv wr => ∃ (k : Nat) (ao : Option Addr) (co : Nat) (us : List Bq) (ms : List Int) (aK : Option Addr) (cK : Nat) (aZ : Option Addr) (cZ : Nat) (Yk : Ys), k ≤ (sdT s).length ∧ k ≤ P.length ∧ iv = .int .i64 k ∧ nv = .int .i64 (cnt ((sdT s).take k) : Nat) ∧ ov = .slice ao Yk.length co ∧ us.length ≤ 100 ∧ ms.length ≤ 100 ∧ Yk.length ≤ 100 ∧ Hid ((Y ++ Yk).map Prod.fst = us) ∧ Hid (M ++ List.replicate k 1 = ms) ∧ Hid (Yk.length = k) ∧ Hid (us.length = Y.length + k ∧ ms.length = Y.length + k) ∧ Hid (Yk.map Prod.snd = (sdT s).take k) ∧ Hid (XZ wr (fun x => FN K w0 wr x ∧ ¬ (Value.slice ao Yk.length co).ownBlock = some x) b { s with nx := numAt s.nx k } (Y ++ Yk) ms (.slice aW s.W.length cW) (.slice aK us.length cK) (.slice aZ ms.length cZ)) ∧ Hid (OwQS wr V5.heap.size (.slice ao Yk.length co) (Yk.map Prod.fst)) ∧ Hid (Chg K w0 wr) ∧ Hid (Chg K V5 wr) ∧ Hid (∀ g, (Value.slice aK us.length cK).ownBlock = some g → K g ∨ V5.heap.size ≤ g) ∧ Hid (∀ g, (Value.slice aZ ms.length cZ).ownBlock = some g → K g ∨ V5.heap.size ≤ g)) (fun _ _ i _ => P.length - (intOf i).toNat)
  case atStart =>
    refine ⟨0, none, 0, us0, M, aO, cO, aS, cS, [], Nat.zero_le _, Nat.zero_le _, rfl, rfl, rfl, by omega, by omega, Nat.zero_le _, by show (Y ++ []).map Prod.fst = us0; rw [List.append_nil]; exact HUS0.out, List.append_nil M, rfl, ⟨hul0, hml⟩, rfl, ?_, gown_nil (R := RBT) _ _, chg0 HC5.out, Chg.refl _ _, ?_, ?_⟩
    rotate_left
    · exact fun g hg => .inl (HX0.out.of g hg)
    · exact fun g hg => .inl (HX0.out.sf g hg)
    show XZ _ _ _ _ _ _ _ _ _
    rw [List.append_nil]
    exact ((HX0.out.below HC5.out).same rfl rfl rfl rfl).mono (fun y hy => ⟨.inl hy, fun e => by cases e⟩) (fun y hy => FN.lt HX0.out.lt HC5.out.size y hy.1)
  case round =>
    obtain ⟨k, ao, co, us, ms, aK, cK, aZ, cZ, Yk, hkm, hkp, rfl, rfl, rfl, hus9, hms9, hyk9, HUS, HMS, HYL, HLN, HYS, HX, HQ, HC, HCV, HVO, HVS⟩ := hrel
    have hx := HX.out
    obtain ⟨c0, c1, c2, c3, c4, c5, cf⟩ := hx.cells
    by_cases hlt : k < P.length
    · have hrw := HROW.out.chg HCV.out (fun x hx1 _ hx2 => by have := HX0.out.lt x hx2; omega)
      obtain ⟨g2, u, hg2, q0, q1, q2⟩ := hrw.at hlt
      obtain ⟨x, hxp⟩ : ∃ x, P.getD k zb = x := ⟨_, rfl⟩
      rw [hxp] at q0 q2
      obtain ⟨N, ys⟩ := x
      simp only at q0 q2
      obtain ⟨au, cu, rfl⟩ := own_form q2
      have hltz : (k : Int) < P.length := by omega
      have l1 := World.block_lt_of_cell? wr _ q0
      have l2 := World.block_lt_of_cell? wr _ c0
      have kc6 : ∀ w', Below wr.heap.size wr w' → w'.cell? ⟨g2, k * 2, none⟩ = some (.int .i64 N) ∧ w'.cell? ⟨b, 0, none⟩ = some (.int .i64 s.win) := fun w' h => ⟨(h.cell (p := ⟨g2, k * 2, none⟩) l1).trans q0, (h.cell (p := ⟨b, 0, none⟩) l2).trans c0⟩
      have HXP := Lib.hid hxp
      have HU := Lib.hid q2
      have HQQ := Lib.hid (And.intro q0 (And.intro q1 (And.intro l1 l2)))
      clear c0 c1 c2 c3 c4 c5 cf hx hrw hxp q0 q1 q2 l1 l2
      subst hg2
      go_upto_region 6 with (fail)
      refine wp_region_typed (C := fun w' => Below wr.heap.size wr w') (X := fun w w' => Below w.heap.size w w') (n := 100) (by kernel_rfl) (by kernel_rfl) rfl (fun w => Below.refl _ w) (Below.refl _ _).drew ?_
      refine w_is (fun w => Below.refl _ w) _ (.inl rfl) (fun ρ w hC hc hfn hf => by have e8 : ρ (.tmp 8) = _ := hf 8 (by decide); (conv => lhs; simp [execOp, go_sem, hc, e8])) ?_
      refine w_is (fun w => Below.refl _ w) _ (.inl rfl) (fun ρ w hC hc hfn hf => by have e3 : ρ (.tmp 3) = _ := hf 3 (by decide); (conv => lhs; simp [execOp, go_sem, hc, e3])) ?_
      refine w_is (fun w => Below.refl _ w) _ (.inl rfl) (fun ρ w hC hc hfn hf => by have e24 : ρ (.tmp 24) = _ := hf 24 (by decide); (conv => lhs; simp [execOp, go_sem, hc, e24])) ?_
      refine w_is (fun w => Below.refl _ w) _ (.inl rfl) (fun ρ w hC hc hfn hf => by have e23 : ρ (.tmp 23) = _ := hf 23 (by decide); have e25 : ρ (.tmp 25) = _ := hf 25 (by decide); (conv => lhs; simp [execOp, go_sem, hc, e23, e25, hltz])) ?_
      refine w_is (fun w => Below.refl _ w) _ (.inl rfl) (fun ρ w hC hc hfn hf => by have e26 : ρ (.tmp 26) = _ := hf 26 (by decide); (conv => lhs; simp [execOp, go_sem, hc, e26])) ?_
      refine w_is (fun w => Below.refl _ w) _ (.inr ⟨4, 27, true, rfl, rfl, known_is rfl⟩) (fun ρ w hC hc hfn hf => by have e5 : ρ (.tmp 5) = _ := hf 5 (by decide); (conv => lhs; simp [execOp, go_sem, hc, e5])) ?_
      refine w_is (fun w => Below.refl _ w) _ (.inr ⟨4, 27, true, rfl, rfl, known_is rfl⟩) (fun ρ w hC hc hfn hf => by have e3 : ρ (.tmp 3) = _ := hf 3 (by decide); (conv => lhs; simp [execOp, go_sem, hc, e3])) ?_
      refine w_is (fun w => Below.refl _ w) _ (.inr ⟨4, 27, true, rfl, rfl, known_is rfl⟩) (fun ρ w hC hc hfn hf => by have e8 : ρ (.tmp 8) = _ := hf 8 (by decide); (conv => lhs; simp [execOp, go_sem, hc, e8])) ?_
      refine w_is (fun w => Below.refl _ w) _ (.inr ⟨4, 27, true, rfl, rfl, known_is rfl⟩) (fun ρ w hC hc hfn hf => by have e29 : ρ (.tmp 29) = _ := hf 29 (by decide); have e30 : ρ (.tmp 30) = _ := hf 30 (by decide); (conv => lhs; simp [execOp, go_sem, hc, e29, e30, hltz])) ?_
      refine w_is (fun w => Below.refl _ w) _ (.inr ⟨4, 27, true, rfl, rfl, known_is rfl⟩) (fun ρ w hC hc hfn hf => by have e31 : ρ (.tmp 31) = _ := hf 31 (by decide); (conv => lhs; simp [execOp, go_sem, hc, e31])) ?_
      refine w_is (fun w => Below.refl _ w) _ (.inr ⟨4, 27, true, rfl, rfl, known_is rfl⟩) (fun ρ w hC hc hfn hf => by have e32 : ρ (.tmp 32) = _ := hf 32 (by decide); (conv => lhs; simp [execOp, go_sem, hc, e32, kc6 w hC])) ?_
      refine w_call (Is _) (fun _ _ _ h _ => h) 33 (.inr ⟨4, 27, true, rfl, rfl, known_is rfl⟩) (fun ρ w hC hc hfn hf => by have e28 : ρ (.tmp 28) = _ := hf 28 (by decide); have e33 : ρ (.tmp 33) = _ := hf 33 (by decide); exact ⟨_, by (conv => lhs; simp [execOp, resolve, invoke, go_sem, hc, hfn, e28, e33]), tc_same hC (rfar_any f N w)⟩) ?_
      refine w_is (fun w => Below.refl _ w) _ (.inr ⟨4, 27, true, rfl, rfl, known_is rfl⟩) (fun ρ w hC hc hfn hf => by have e0 : ρ (.tmp 0) = _ := hf 0 (by decide); (conv => lhs; simp [execOp, go_sem, hc, e0])) ?_
      refine w_is (fun w => Below.refl _ w) _ (.inr ⟨4, 27, true, rfl, rfl, known_is rfl⟩) (fun ρ w hC hc hfn hf => by have e35 : ρ (.tmp 35) = _ := hf 35 (by decide); (conv => lhs; simp [execOp, go_sem, hc, e35])) ?_
      refine w_is (fun w => Below.refl _ w) _ (.inr ⟨4, 27, true, rfl, rfl, known_is rfl⟩) (fun ρ w hC hc hfn hf => by have e36 : ρ (.tmp 36) = _ := hf 36 (by decide); (conv => lhs; simp [execOp, go_sem, hc, e36])) ?_
      refine w_is (fun w => Below.refl _ w) _ (.inr ⟨4, 27, true, rfl, rfl, known_is rfl⟩) (fun ρ w hC hc hfn hf => by have e37 : ρ (.tmp 37) = _ := hf 37 (by decide); (conv => lhs; simp [execOp, go_sem, hc, e37, kc6 w hC])) ?_
      refine w_is (fun w => Below.refl _ w) _ (.inr ⟨4, 27, true, rfl, rfl, known_is rfl⟩) (fun ρ w hC hc hfn hf => by have e34 : ρ (.tmp 34) = _ := hf 34 (by decide); have e38 : ρ (.tmp 38) = _ := hf 38 (by decide); (conv => lhs; simp [execOp, go_sem, hc, e34, e38])) ?_
      refine w_is (fun w => Below.refl _ w) _ (.inl rfl) (fun ρ w hC hc hfn hf => by have e27 : ρ (.tmp 27) = _ := hf 27 (by decide); have e39 : ρ (.tmp 39) = _ := hf 39 (by decide); (conv => lhs; simp [execOp, go_sem, hc, e27, e39])) ?_
      intro A W4 hC hn hd hf
      have y0 : A.eval (.tmp 0) = _ := Eq.trans (hf 0) (by conv => lhs; simp [go_sem])
      have y1 : A.eval (.tmp 1) = _ := Eq.trans (hf 1) (by conv => lhs; simp [go_sem])
      have y2 : A.eval (.tmp 2) = _ := Eq.trans (hf 2) (by conv => lhs; simp [go_sem])
      have y3 : A.eval (.tmp 3) = _ := Eq.trans (hf 3) (by conv => lhs; simp [go_sem])
      have y4 : A.eval (.tmp 4) = _ := Eq.trans (hf 4) (by conv => lhs; simp [go_sem])
      have y5 : A.eval (.tmp 5) = _ := Eq.trans (hf 5) (by conv => lhs; simp [go_sem])
      have y6 : A.eval (.tmp 6) = _ := Eq.trans (hf 6) (by conv => lhs; simp [go_sem])
      have y7 : A.eval (.tmp 7) = _ := Eq.trans (hf 7) (by conv => lhs; simp [go_sem])
      have y8 : A.eval (.tmp 8) = _ := Eq.trans (hf 8) (by conv => lhs; simp [go_sem])
      have y9 : A.eval (.tmp 9) = _ := Eq.trans (hf 9) (by conv => lhs; simp [go_sem])
      have y10 : A.eval (.tmp 10) = _ := Eq.trans (hf 10) (by conv => lhs; simp [go_sem])
      have y11 : A.eval (.tmp 11) = _ := Eq.trans (hf 11) (by conv => lhs; simp [go_sem])
      have y12 : A.eval (.tmp 12) = _ := Eq.trans (hf 12) (by conv => lhs; simp [go_sem])
      have y13 : A.eval (.tmp 13) = _ := Eq.trans (hf 13) (by conv => lhs; simp [go_sem])
      have y14 : A.eval (.tmp 14) = _ := Eq.trans (hf 14) (by conv => lhs; simp [go_sem])
      have y15 : A.eval (.tmp 15) = _ := Eq.trans (hf 15) (by conv => lhs; simp [go_sem])
      have y16 : A.eval (.tmp 16) = _ := Eq.trans (hf 16) (by conv => lhs; simp [go_sem])
      have y17 : A.eval (.tmp 17) = _ := Eq.trans (hf 17) (by conv => lhs; simp [go_sem])
      have y18 : A.eval (.tmp 18) = _ := Eq.trans (hf 18) (by conv => lhs; simp [go_sem])
      have y19 : A.eval (.tmp 19) = _ := Eq.trans (hf 19) (by conv => lhs; simp [go_sem])
      have y20 : A.eval (.tmp 20) = _ := Eq.trans (hf 20) (by conv => lhs; simp [go_sem])
      have y21 : A.eval (.tmp 21) = _ := Eq.trans (hf 21) (by conv => lhs; simp [go_sem])
      have y22 : A.eval (.tmp 22) = _ := Eq.trans (hf 22) (by conv => lhs; simp [go_sem])
      have y23 : A.eval (.tmp 23) = _ := hf 23
      have y24 : A.eval (.tmp 24) = _ := hf 24
      have y25 : A.eval (.tmp 25) = _ := hf 25
      have y26 : A.eval (.tmp 26) = _ := hf 26
      have y27 : A.eval (.tmp 27) = _ := hf 27
      have y28 : A.eval (.tmp 28) = _ := hf 28
      have y29 : A.eval (.tmp 29) = _ := hf 29
      have y30 : A.eval (.tmp 30) = _ := hf 30
      have y31 : A.eval (.tmp 31) = _ := hf 31
      have y32 : A.eval (.tmp 32) = _ := hf 32
      have y33 : A.eval (.tmp 33) = _ := hf 33
      have y34 : A.eval (.tmp 34) = _ := hf 34
      have y35 : A.eval (.tmp 35) = _ := hf 35
      have y36 : A.eval (.tmp 36) = _ := hf 36
      have y37 : A.eval (.tmp 37) = _ := hf 37
      have y38 : A.eval (.tmp 38) = _ := hf 38
      have y39 : A.eval (.tmp 39) = _ := hf 39
      have y40 : A.eval (.tmp 40) = _ := hf 40
      have y41 : A.eval (.tmp 41) = _ := Eq.trans (hf 41) (by conv => lhs; simp [go_sem])
      have y42 : A.eval (.tmp 42) = _ := Eq.trans (hf 42) (by conv => lhs; simp [go_sem])
      have y43 : A.eval (.tmp 43) = _ := Eq.trans (hf 43) (by conv => lhs; simp [go_sem])
      have y44 : A.eval (.tmp 44) = _ := Eq.trans (hf 44) (by conv => lhs; simp [go_sem])
      have y45 : A.eval (.tmp 45) = _ := Eq.trans (hf 45) (by conv => lhs; simp [go_sem])
      have y46 : A.eval (.tmp 46) = _ := Eq.trans (hf 46) (by conv => lhs; simp [go_sem])
      have y47 : A.eval (.tmp 47) = _ := Eq.trans (hf 47) (by conv => lhs; simp [go_sem])
      have y48 : A.eval (.tmp 48) = _ := Eq.trans (hf 48) (by conv => lhs; simp [go_sem])
      have y49 : A.eval (.tmp 49) = _ := Eq.trans (hf 49) (by conv => lhs; simp [go_sem])
      have y50 : A.eval (.tmp 50) = _ := Eq.trans (hf 50) (by conv => lhs; simp [go_sem])
      have y51 : A.eval (.tmp 51) = _ := Eq.trans (hf 51) (by conv => lhs; simp [go_sem])
      have y52 : A.eval (.tmp 52) = _ := Eq.trans (hf 52) (by conv => lhs; simp [go_sem])
      have y53 : A.eval (.tmp 53) = _ := Eq.trans (hf 53) (by conv => lhs; simp [go_sem])
      have y54 : A.eval (.tmp 54) = _ := Eq.trans (hf 54) (by conv => lhs; simp [go_sem])
      have y55 : A.eval (.tmp 55) = _ := Eq.trans (hf 55) (by conv => lhs; simp [go_sem])
      have y56 : A.eval (.tmp 56) = _ := Eq.trans (hf 56) (by conv => lhs; simp [go_sem])
      have y57 : A.eval (.tmp 57) = _ := Eq.trans (hf 57) (by conv => lhs; simp [go_sem])
      have y58 : A.eval (.tmp 58) = _ := Eq.trans (hf 58) (by conv => lhs; simp [go_sem])
      have y59 : A.eval (.tmp 59) = _ := Eq.trans (hf 59) (by conv => lhs; simp [go_sem])
      have y60 : A.eval (.tmp 60) = _ := Eq.trans (hf 60) (by conv => lhs; simp [go_sem])
      have y61 : A.eval (.tmp 61) = _ := Eq.trans (hf 61) (by conv => lhs; simp [go_sem])
      have y62 : A.eval (.tmp 62) = _ := Eq.trans (hf 62) (by conv => lhs; simp [go_sem])
      have y63 : A.eval (.tmp 63) = _ := Eq.trans (hf 63) (by conv => lhs; simp [go_sem])
      have y64 : A.eval (.tmp 64) = _ := Eq.trans (hf 64) (by conv => lhs; simp [go_sem])
      have y65 : A.eval (.tmp 65) = _ := Eq.trans (hf 65) (by conv => lhs; simp [go_sem])
      have y66 : A.eval (.tmp 66) = _ := Eq.trans (hf 66) (by conv => lhs; simp [go_sem])
      have y67 : A.eval (.tmp 67) = _ := Eq.trans (hf 67) (by conv => lhs; simp [go_sem])
      have y68 : A.eval (.tmp 68) = _ := Eq.trans (hf 68) (by conv => lhs; simp [go_sem])
      have y69 : A.eval (.tmp 69) = _ := Eq.trans (hf 69) (by conv => lhs; simp [go_sem])
      have y70 : A.eval (.tmp 70) = _ := Eq.trans (hf 70) (by conv => lhs; simp [go_sem])
      have y71 : A.eval (.tmp 71) = _ := Eq.trans (hf 71) (by conv => lhs; simp [go_sem])
      have y72 : A.eval (.tmp 72) = _ := Eq.trans (hf 72) (by conv => lhs; simp [go_sem])
      have y73 : A.eval (.tmp 73) = _ := Eq.trans (hf 73) (by conv => lhs; simp [go_sem])
      have y74 : A.eval (.tmp 74) = _ := Eq.trans (hf 74) (by conv => lhs; simp [go_sem])
      have y75 : A.eval (.tmp 75) = _ := Eq.trans (hf 75) (by conv => lhs; simp [go_sem])
      have y76 : A.eval (.tmp 76) = _ := Eq.trans (hf 76) (by conv => lhs; simp [go_sem])
      have y77 : A.eval (.tmp 77) = _ := Eq.trans (hf 77) (by conv => lhs; simp [go_sem])
      have y78 : A.eval (.tmp 78) = _ := Eq.trans (hf 78) (by conv => lhs; simp [go_sem])
      have y79 : A.eval (.tmp 79) = _ := Eq.trans (hf 79) (by conv => lhs; simp [go_sem])
      have y80 : A.eval (.tmp 80) = _ := Eq.trans (hf 80) (by conv => lhs; simp [go_sem])
      have y81 : A.eval (.tmp 81) = _ := Eq.trans (hf 81) (by conv => lhs; simp [go_sem])
      have y82 : A.eval (.tmp 82) = _ := Eq.trans (hf 82) (by conv => lhs; simp [go_sem])
      have y83 : A.eval (.tmp 83) = _ := Eq.trans (hf 83) (by conv => lhs; simp [go_sem])
      have y84 : A.eval (.tmp 84) = _ := Eq.trans (hf 84) (by conv => lhs; simp [go_sem])
      have y85 : A.eval (.tmp 85) = _ := Eq.trans (hf 85) (by conv => lhs; simp [go_sem])
      have y86 : A.eval (.tmp 86) = _ := Eq.trans (hf 86) (by conv => lhs; simp [go_sem])
      have y87 : A.eval (.tmp 87) = _ := Eq.trans (hf 87) (by conv => lhs; simp [go_sem])
      have y88 : A.eval (.tmp 88) = _ := Eq.trans (hf 88) (by conv => lhs; simp [go_sem])
      have y89 : A.eval (.tmp 89) = _ := Eq.trans (hf 89) (by conv => lhs; simp [go_sem])
      have y90 : A.eval (.tmp 90) = _ := Eq.trans (hf 90) (by conv => lhs; simp [go_sem])
      have y91 : A.eval (.tmp 91) = _ := Eq.trans (hf 91) (by conv => lhs; simp [go_sem])
      have y92 : A.eval (.tmp 92) = _ := Eq.trans (hf 92) (by conv => lhs; simp [go_sem])
      have y93 : A.eval (.tmp 93) = _ := Eq.trans (hf 93) (by conv => lhs; simp [go_sem])
      have y94 : A.eval (.tmp 94) = _ := Eq.trans (hf 94) (by conv => lhs; simp [go_sem])
      have y95 : A.eval (.tmp 95) = _ := Eq.trans (hf 95) (by conv => lhs; simp [go_sem])
      have y96 : A.eval (.tmp 96) = _ := Eq.trans (hf 96) (by conv => lhs; simp [go_sem])
      have y97 : A.eval (.tmp 97) = _ := Eq.trans (hf 97) (by conv => lhs; simp [go_sem])
      have y98 : A.eval (.tmp 98) = _ := Eq.trans (hf 98) (by conv => lhs; simp [go_sem])
      have y99 : A.eval (.tmp 99) = _ := Eq.trans (hf 99) (by conv => lhs; simp [go_sem])
      clear hf
      have hA := frame_eq hn
      rw [show List.range 100 = [0, 1, 2, 3, 4, 5, 6, 7, 8, 9, 10, 11, 12, 13, 14, 15, 16, 17, 18, 19, 20, 21, 22, 23, 24, 25, 26, 27, 28, 29, 30, 31, 32, 33, 34, 35, 36, 37, 38, 39, 40, 41, 42, 43, 44, 45, 46, 47, 48, 49, 50, 51, 52, 53, 54, 55, 56, 57, 58, 59, 60, 61, 62, 63, 64, 65, 66, 67, 68, 69, 70, 71, 72, 73, 74, 75, 76, 77, 78, 79, 80, 81, 82, 83, 84, 85, 86, 87, 88, 89, 90, 91, 92, 93, 94, 95, 96, 97, 98, 99] from rfl, hd] at hA
      simp only [List.map_cons, List.map_nil, y0, y1, y2, y3, y4, y5, y6, y7, y8, y9, y10, y11, y12, y13, y14, y15, y16, y17, y18, y19, y20, y21, y22, y23, y24, y25, y26, y27, y28, y29, y30, y31, y32, y33, y34, y35, y36, y37, y38, y39, y40, y41, y42, y43, y44, y45, y46, y47, y48, y49, y50, y51, y52, y53, y54, y55, y56, y57, y58, y59, y60, y61, y62, y63, y64, y65, y66, y67, y68, y69, y70, y71, y72, y73, y74, y75, y76, y77, y78, y79, y80, y81, y82, y83, y84, y85, y86, y87, y88, y89, y90, y91, y92, y93, y94, y95, y96, y97, y98, y99] at hA
      clear y0 y1 y2 y3 y4 y5 y6 y7 y8 y9 y10 y11 y12 y13 y14 y15 y16 y17 y18 y19 y20 y21 y22 y23 y24 y25 y26 y27 y28 y29 y30 y31 y32 y33 y34 y35 y36 y37 y38 y39 y40 y41 y42 y43 y44 y45 y46 y47 y48 y49 y50 y51 y52 y53 y54 y55 y56 y57 y58 y59 y60 y61 y62 y63 y64 y65 y66 y67 y68 y69 y70 y71 y72 y73 y74 y75 y76 y77 y78 y79 y80 y81 y82 y83 y84 y85 y86 y87 y88 y89 y90 y91 y92 y93 y94 y95 y96 y97 y98 y99
      clear hn hd
      subst hA
      have HC6 := Lib.hid hC
      clear kc6 hC
      by_cases hw : far f N < s.win
      · have hks : k < (sdT s).length := by
          rcases Nat.lt_or_ge k (sdT s).length with h9 | h9
          · exact h9
          · exfalso
            have hke : k = (sdT s).length := by omega
            obtain ⟨R, hR, hno⟩ := sdT_split s
            have hpe : P = sdT s ++ R := HPK.out.symm.trans hR
            cases R with
            | nil => rw [hpe, List.append_nil] at hlt; omega
            | cons p R =>
              have hx9 := HXP.out
              rw [hpe, hke] at hx9
              have hx8 : (sdT s ++ p :: R).getD (sdT s).length zb = p := by simp [List.getD]
              rw [hx8] at hx9
              have h7 := hno p R rfl
              rw [hx9, HFS.out] at h7
              exact h7 hw
        have hx9 : (sdT s).getD k zb = (N, ys) := by
          obtain ⟨R, hR, _⟩ := sdT_split s
          have h9 := HXP.out
          rw [HPK.out.symm.trans hR, getD_app hks] at h9
          exact h9
        have hd : decide (far f N < s.win) = true := decide_eq_true hw
        have hcn := cnt_one hks
        rw [hx9] at hcn
        have hcl := cnt_le (s := s) (k + 1)
        rw [hcn] at hcl
        have hcl2 : cnt ((sdT s).take k) + ys.length ≤ 1024 := Nat.le_trans hcl HWT.out
        obtain ⟨q0, q1, l1, l2⟩ := HQQ.out
        obtain ⟨uk, huk⟩ : ∃ uk, Yk.map Prod.fst = uk := ⟨_, rfl⟩
        have hukl : uk.length = Yk.length := by rw [← huk, List.length_map]
        have hq4 : OwQS W4 V5.heap.size (.slice ao Yk.length co) uk := huk ▸ gown_below HQ.out HC6.out
        have hV4 : V5.heap.size ≤ W4.heap.size := Nat.le_trans HCV.out.size HC6.out.size
        obtain ⟨g8, cap8, W8, hr8, hq8, hb8, hc8, hv8⟩ := run_q W4 V5.heap.size (.slice ao Yk.length co) uk hq4 (N, au, ys.length, cu) (by omega) hV4 (ty := 30)
        rw [hukl] at hr8 hq8
        have a0 : W4.cell? ⟨g2, k * 2, none⟩ = some (.int .i64 N) := (HC6.out.cell (p := ⟨g2, k * 2, none⟩) l1).trans q0
        have a1 : W4.cell? ⟨g2, k * 2 + 1, none⟩ = some (.slice au ys.length cu) := (HC6.out.cell (p := ⟨g2, k * 2 + 1, none⟩) l1).trans q1
        have hx4 := HX.out.below HC6.out
        have hbK : K b := HX0.out.fb
        have hb0 : b < w0.heap.size := HX0.out.lt b hbK
        have hV5 : w0.heap.size ≤ V5.heap.size := HC5.out.size
        have hov : ∀ g, (Value.slice ao Yk.length co).ownBlock = some g → V5.heap.size ≤ g := fun g hg => (hq4.lt g hg).1
        have hg2b : V5.heap.size > g2 ∧ w0.heap.size ≤ g2 := by
          obtain ⟨vs, _, k2, _⟩ := HROW.out
          have h9 := World.ownsRow.lt k2 g2 rfl
          exact ⟨h9.2, h9.1⟩
        -- out has one more
        have hx8 := hx4.keep hc8 (fun x hx hn => hx.2 hn)
        have hx8' : XZ W8 (fun x => FN K w0 W8 x ∧ ¬ (Value.slice (some ⟨g8, 0, none⟩) (Yk.length + 1) cap8).ownBlock = some x) b { s with nx := numAt s.nx k } (Y ++ Yk) ms (.slice aW s.W.length cW) (.slice aK us.length cK) (.slice aZ ms.length cZ) := by
          refine hx8.mono (fun x hx => ⟨hx.1.imp (fun e => e) (fun e => ⟨e.1, by have := HC6.out.size; have := hc8.size; omega⟩), fun e => ?_⟩) (fun x hx => FN.lt HX0.out.lt (Nat.le_trans HC.out.size (Nat.le_trans HC6.out.size hc8.size)) x hx.1)
          have e' : g8 = x := by cases e; rfl
          subst e'
          rcases hv8 with h1 | h1
          · exact hx.2 h1
          · have h2 := FN.lt HX0.out.lt HC.out.size g8 hx.1
            have := HC6.out.size
            omega
        have hC8 : Chg K w0 W8 := (HC.out.trans (G := fun _ => False) (chg0 HC6.out) (fun _ _ e => e.elim)).trans hc8 (fun x hx e => by have := hov x e; omega)
        have hCV8 : Chg K V5 W8 := (HCV.out.trans (G := fun _ => False) (chg0 HC6.out) (fun _ _ e => e.elim)).trans hc8 (fun x hx e => by have := hov x e; omega)
        have q08 : W8.cell? ⟨g2, k * 2, none⟩ = some (.int .i64 N) := (hc8.cell (by omega) (fun e => by have := hov g2 e; omega)).trans a0
        have q18 : W8.cell? ⟨g2, k * 2 + 1, none⟩ = some (.slice au ys.length cu) := (hc8.cell (by omega) (fun e => by have := hov g2 e; omega)).trans a1
        -- what is out has one more
        have OW := Lib.hid hx8'.ot
        obtain ⟨d0, d1, d2, d3, d4, d5, df⟩ := hx8'.cells
        have hOb : ¬ (Value.slice aK us.length cK).ownBlock = some b := fun e => (own_blk hx8'.ot e).ne hx8'.bt (by decide) rfl
        have hOg : ¬ (Value.slice aK us.length cK).ownBlock = some g2 := fun e => (HVO.out g2 e).elim (fun h => by have := HX0.out.lt g2 h; omega) (fun h => by omega)
        have hb8 : b < W8.heap.size := by have := hC8.size; omega
        have hg28 : g2 < W8.heap.size := by have := hCV8.size; omega
        have kc10 : ∀ w', Chg (fun k => (Value.slice aK us.length cK).ownBlock = some k) W8 w' → w'.cell? ⟨b, 3, none⟩ = some (.slice aK us.length cK) ∧ w'.cell? ⟨g2, k * 2, none⟩ = some (.int .i64 N) ∧ w'.cell? ⟨g2, k * 2 + 1, none⟩ = some (.slice au ys.length cu) := fun w' h => ⟨(h.cell hb8 hOb).trans d3, (h.cell hg28 hOg).trans q08, (h.cell hg28 hOg).trans q18⟩
        have HXL : Hid (us.length ≤ 3000) := by show _ ≤ _; omega
        have HSW : Hid (0 ≤ W8.heap.size) := Nat.zero_le _
        have OWW : Hid (W8.ownsRow 0 (RBT).T (RBT).K (Value.slice aK us.length cK) us.length (gflat RBT us)) := by
          have h9 := OW.out
          rw [HUS.out] at h9
          exact h9
        have HROWW : ∀ k, (Value.slice aK us.length cK).ownBlock = some k → k < W8.heap.size := fun y hy => (World.ownsRow.lt OWW.out y hy).2
        have HX8 := Lib.hid hx8'
        have HC8 := Lib.hid hC8
        have HCV8 := Lib.hid hCV8
        have HQ8 := Lib.hid hq8
        have HQ18 := Lib.hid (And.intro q08 (And.intro q18 d3))
        have HNUM := Lib.hid (And.intro hbK (And.intro hb0 (And.intro hV5 (And.intro hov hg2b))))
        have HHK := Lib.hid hks
        have HX9 := Lib.hid hx9
        have HCN := Lib.hid hcn
        have HV8 := Lib.hid hv8
        have HUKK := Lib.hid huk
        have HU8 : Hid (OwO W8 w0.heap.size (.slice au ys.length cu) ys) := own_chg (gown_below HU.out HC6.out) hc8 (fun g hg e => (own_blk (gown_below HU.out HC6.out) hg).ne (own_blk hq4 e) (by decide) rfl)
        have HGG : Hid (V5.heap.size ≤ g8 ∧ g8 < W8.heap.size) := World.ownsRow.lt hq8 g8 rfl
        simp only [hd]
        clear hks hx9 hcn hcl q0 q1 l1 l2 huk hukl hq4 hV4 hq8 hc8 hv8 hx4 hbK hb0 hV5 hov hg2b hx8 hx8' hC8 hCV8 d0 d1 d2 d3 d4 d5 df hOb hOg hw
        go_upto_region 9 with (at_builtin; refine app_go rfl (.tmp 43) (.tmp 48) 30 rfl _ _ _ _ rfl rfl hr8 ?_)
        clear a0 a1 hr8 q08
        go_upto_region 10 with (fail)
        clear q18
        refine T3.wp_region_tail (C := fun w' => Chg (fun k => (Value.slice aK us.length cK).ownBlock = some k) W8 w' ∧ w'.ownsRow 0 (RBT).T (RBT).K (Value.slice aK us.length cK) (us).length (gflat RBT (us))) (X := GX (Value.ownBlock (Value.slice aK us.length cK)) 10) (n := 100) 13 (by kernel_rfl) (by kernel_rfl) (by kernel_rfl) (by kernel_rfl) rfl (GX_refl _ 10) ⟨(Chg.refl _ _).drew, OWW.out.drew⟩ ?_
        simp only [List.take_succ_cons, List.take_zero, List.drop_succ_cons, List.drop_zero]
        refine T3.w_is (GX_refl _ 10) rfl _ (.inl rfl) (fun ρ w hC hc hfn hf => by have e0 : ρ (.tmp 0) = _ := hf 0 (by decide); (conv => lhs; simp [execOp, go_sem, hc, e0])) ?_
        refine T3.w_is (GX_refl _ 10) rfl _ (.inl rfl) (fun ρ w hC hc hfn hf => by have e0 : ρ (.tmp 0) = _ := hf 0 (by decide); (conv => lhs; simp [execOp, go_sem, hc, e0])) ?_
        refine T3.w_is (GX_refl _ 10) rfl _ (.inl rfl) (fun ρ w hC hc hfn hf => by have e59 : ρ (.tmp 59) = _ := hf 59 (by decide); (conv => lhs; simp [execOp, go_sem, hc, e59])) ?_
        refine T3.w_is (GX_refl _ 10) rfl _ (.inl rfl) (fun ρ w hC hc hfn hf => by have e60 : ρ (.tmp 60) = _ := hf 60 (by decide); (conv => lhs; simp [execOp, go_sem, hc, e60])) ?_
        refine T3.w_is (GX_refl _ 10) rfl _ (.inl rfl) (fun ρ w hC hc hfn hf => by have e61 : ρ (.tmp 61) = _ := hf 61 (by decide); (conv => lhs; simp [execOp, go_sem, hc, e61, kc10 w hC.1])) ?_
        refine T3.w_is (GX_refl _ 10) rfl _ (.inl rfl) (fun ρ w hC hc hfn hf => by have e3 : ρ (.tmp 3) = _ := hf 3 (by decide); (conv => lhs; simp [execOp, go_sem, hc, e3])) ?_
        refine T3.w_is (GX_refl _ 10) rfl _ (.inl rfl) (fun ρ w hC hc hfn hf => by have e8 : ρ (.tmp 8) = _ := hf 8 (by decide); (conv => lhs; simp [execOp, go_sem, hc, e8])) ?_
        refine T3.w_is (GX_refl _ 10) rfl _ (.inl rfl) (fun ρ w hC hc hfn hf => by have e63 : ρ (.tmp 63) = _ := hf 63 (by decide); have e64 : ρ (.tmp 64) = _ := hf 64 (by decide); (conv => lhs; simp [execOp, go_sem, hc, e63, e64, hltz])) ?_
        refine T3.w_is (GX_refl _ 10) rfl _ (.inl rfl) (fun ρ w hC hc hfn hf => by have e65 : ρ (.tmp 65) = _ := hf 65 (by decide); (conv => lhs; simp [execOp, go_sem, hc, e65, kc10 w hC.1])) ?_
        refine T3.w_make rfl (NewG (R := RBT) W8 (((N, au, ys.length, cu) : Bq))) (NewG.keeps HROWW 10 9) (.inl rfl) (fun ρ w hC hc hfn hf => by have e66 : ρ (.tmp 66) = _ := hf 66 (by decide); exact ⟨_, _, by (conv => lhs; simp [execOp, go_sem, hc, e66]); rfl, ⟨hC.1.alloc _, gown_below hC.2 ((Below.refl _ w).alloc (Nat.le_refl _) _)⟩, GX_of (by decide) ((Below.refl _ w).alloc (Nat.le_refl _) _), ⟨_, rfl, hC.1.size, gc_alloc (RBT) w (((N, au, ys.length, cu) : Bq)) _ rfl 55⟩⟩) ?_
        refine T3.w_make rfl (NewR (RBT) W8 0 (Value.slice aK us.length cK) ((us) ++ [((N, au, ys.length, cu) : Bq)]) ((us).length + 1)) (NewR.keeps 10) (.inl rfl) (fun ρ w hC hc hfn hf => by have e62 : ρ (.tmp 62) = _ := hf 62 (by decide); obtain ⟨bq, e67, hb1, hb2⟩ := (show NewG (R := RBT) W8 (((N, au, ys.length, cu) : Bq)) (ρ (.tmp 67)) w from hf 67 (by decide)); obtain ⟨gq, cq, wq, hr, hq1, hq2, hq4, hq3⟩ := run_gappr (RBT) w 0 _ (us) hC.2 bq (((N, au, ys.length, cu) : Bq)) hb2 HXL.out (Nat.le_trans HSW.out hC.1.size); exact ⟨_, wq, gexec_append rfl e62 e67 hr, ⟨hC.1.grown hq2 (fun k hk => .inl hk), hq4⟩, GX_at rfl hq2, ⟨gq, cq, rfl, hq1, hq3.imp (fun h => h) (fun h => Nat.le_trans hC.1.size h)⟩⟩) ?_
        refine T3.w_is (GX_refl _ 10) rfl _ (.inl rfl) (fun ρ w hC hc hfn hf => by have e58 : ρ (.tmp 58) = _ := hf 58 (by decide); (conv => lhs; simp [execOp, go_sem, hc, e58])) ?_
        refine T3.w_is (GX_refl _ 10) rfl _ (.inl rfl) (fun ρ w hC hc hfn hf => by have e69 : ρ (.tmp 69) = _ := hf 69 (by decide); (conv => lhs; simp [execOp, go_sem, hc, e69])) ?_
        intro A W9 hC hn hd hf
        obtain ⟨bq, y67, -, -⟩ := (show NewG (R := RBT) W8 (((N, au, ys.length, cu) : Bq)) (A.eval (.tmp 67)) W9 from hf 67)
        obtain ⟨gq, cq, y68, OQ, HQ9⟩ := (show NewR (RBT) W8 0 (Value.slice aK us.length cK) ((us) ++ [((N, au, ys.length, cu) : Bq)]) ((us).length + 1) (A.eval (.tmp 68)) W9 from hf 68)
        rw [y68] at OQ
        have y0 : A.eval (.tmp 0) = _ := Eq.trans (hf 0) (by conv => lhs; simp [go_sem])
        have y1 : A.eval (.tmp 1) = _ := Eq.trans (hf 1) (by conv => lhs; simp [go_sem])
        have y2 : A.eval (.tmp 2) = _ := Eq.trans (hf 2) (by conv => lhs; simp [go_sem])
        have y3 : A.eval (.tmp 3) = _ := Eq.trans (hf 3) (by conv => lhs; simp [go_sem])
        have y4 : A.eval (.tmp 4) = _ := Eq.trans (hf 4) (by conv => lhs; simp [go_sem])
        have y5 : A.eval (.tmp 5) = _ := Eq.trans (hf 5) (by conv => lhs; simp [go_sem])
        have y6 : A.eval (.tmp 6) = _ := Eq.trans (hf 6) (by conv => lhs; simp [go_sem])
        have y7 : A.eval (.tmp 7) = _ := Eq.trans (hf 7) (by conv => lhs; simp [go_sem])
        have y8 : A.eval (.tmp 8) = _ := Eq.trans (hf 8) (by conv => lhs; simp [go_sem])
        have y9 : A.eval (.tmp 9) = _ := Eq.trans (hf 9) (by conv => lhs; simp [go_sem])
        have y10 : A.eval (.tmp 10) = _ := Eq.trans (hf 10) (by conv => lhs; simp [go_sem])
        have y11 : A.eval (.tmp 11) = _ := Eq.trans (hf 11) (by conv => lhs; simp [go_sem])
        have y12 : A.eval (.tmp 12) = _ := Eq.trans (hf 12) (by conv => lhs; simp [go_sem])
        have y13 : A.eval (.tmp 13) = _ := Eq.trans (hf 13) (by conv => lhs; simp [go_sem])
        have y14 : A.eval (.tmp 14) = _ := Eq.trans (hf 14) (by conv => lhs; simp [go_sem])
        have y15 : A.eval (.tmp 15) = _ := Eq.trans (hf 15) (by conv => lhs; simp [go_sem])
        have y16 : A.eval (.tmp 16) = _ := Eq.trans (hf 16) (by conv => lhs; simp [go_sem])
        have y17 : A.eval (.tmp 17) = _ := Eq.trans (hf 17) (by conv => lhs; simp [go_sem])
        have y18 : A.eval (.tmp 18) = _ := Eq.trans (hf 18) (by conv => lhs; simp [go_sem])
        have y19 : A.eval (.tmp 19) = _ := Eq.trans (hf 19) (by conv => lhs; simp [go_sem])
        have y20 : A.eval (.tmp 20) = _ := Eq.trans (hf 20) (by conv => lhs; simp [go_sem])
        have y21 : A.eval (.tmp 21) = _ := Eq.trans (hf 21) (by conv => lhs; simp [go_sem])
        have y22 : A.eval (.tmp 22) = _ := Eq.trans (hf 22) (by conv => lhs; simp [go_sem])
        have y23 : A.eval (.tmp 23) = _ := Eq.trans (hf 23) (by conv => lhs; simp [go_sem])
        have y24 : A.eval (.tmp 24) = _ := Eq.trans (hf 24) (by conv => lhs; simp [go_sem])
        have y25 : A.eval (.tmp 25) = _ := Eq.trans (hf 25) (by conv => lhs; simp [go_sem])
        have y26 : A.eval (.tmp 26) = _ := Eq.trans (hf 26) (by conv => lhs; simp [go_sem])
        have y27 : A.eval (.tmp 27) = _ := Eq.trans (hf 27) (by conv => lhs; simp [go_sem])
        have y28 : A.eval (.tmp 28) = _ := Eq.trans (hf 28) (by conv => lhs; simp [go_sem])
        have y29 : A.eval (.tmp 29) = _ := Eq.trans (hf 29) (by conv => lhs; simp [go_sem])
        have y30 : A.eval (.tmp 30) = _ := Eq.trans (hf 30) (by conv => lhs; simp [go_sem])
        have y31 : A.eval (.tmp 31) = _ := Eq.trans (hf 31) (by conv => lhs; simp [go_sem])
        have y32 : A.eval (.tmp 32) = _ := Eq.trans (hf 32) (by conv => lhs; simp [go_sem])
        have y33 : A.eval (.tmp 33) = _ := Eq.trans (hf 33) (by conv => lhs; simp [go_sem])
        have y34 : A.eval (.tmp 34) = _ := Eq.trans (hf 34) (by conv => lhs; simp [go_sem])
        have y35 : A.eval (.tmp 35) = _ := Eq.trans (hf 35) (by conv => lhs; simp [go_sem])
        have y36 : A.eval (.tmp 36) = _ := Eq.trans (hf 36) (by conv => lhs; simp [go_sem])
        have y37 : A.eval (.tmp 37) = _ := Eq.trans (hf 37) (by conv => lhs; simp [go_sem])
        have y38 : A.eval (.tmp 38) = _ := Eq.trans (hf 38) (by conv => lhs; simp [go_sem])
        have y39 : A.eval (.tmp 39) = _ := Eq.trans (hf 39) (by conv => lhs; simp [go_sem])
        have y40 : A.eval (.tmp 40) = _ := Eq.trans (hf 40) (by conv => lhs; simp [go_sem])
        have y41 : A.eval (.tmp 41) = _ := Eq.trans (hf 41) (by conv => lhs; simp [go_sem])
        have y42 : A.eval (.tmp 42) = _ := Eq.trans (hf 42) (by conv => lhs; simp [go_sem])
        have y43 : A.eval (.tmp 43) = _ := Eq.trans (hf 43) (by conv => lhs; simp [go_sem])
        have y44 : A.eval (.tmp 44) = _ := Eq.trans (hf 44) (by conv => lhs; simp [go_sem])
        have y45 : A.eval (.tmp 45) = _ := Eq.trans (hf 45) (by conv => lhs; simp [go_sem])
        have y46 : A.eval (.tmp 46) = _ := Eq.trans (hf 46) (by conv => lhs; simp [go_sem])
        have y47 : A.eval (.tmp 47) = _ := Eq.trans (hf 47) (by conv => lhs; simp [go_sem])
        have y48 : A.eval (.tmp 48) = _ := Eq.trans (hf 48) (by conv => lhs; simp [go_sem])
        have y49 : A.eval (.tmp 49) = _ := Eq.trans (hf 49) (by conv => lhs; simp [go_sem])
        have y50 : A.eval (.tmp 50) = _ := Eq.trans (hf 50) (by conv => lhs; simp [go_sem])
        have y51 : A.eval (.tmp 51) = _ := Eq.trans (hf 51) (by conv => lhs; simp [go_sem])
        have y52 : A.eval (.tmp 52) = _ := Eq.trans (hf 52) (by conv => lhs; simp [go_sem])
        have y53 : A.eval (.tmp 53) = _ := Eq.trans (hf 53) (by conv => lhs; simp [go_sem])
        have y54 : A.eval (.tmp 54) = _ := Eq.trans (hf 54) (by conv => lhs; simp [go_sem])
        have y55 : A.eval (.tmp 55) = _ := Eq.trans (hf 55) (by conv => lhs; simp [go_sem])
        have y56 : A.eval (.tmp 56) = _ := Eq.trans (hf 56) (by conv => lhs; simp [go_sem])
        have y57 : A.eval (.tmp 57) = _ := Eq.trans (hf 57) (by conv => lhs; simp [go_sem])
        have y58 : A.eval (.tmp 58) = _ := hf 58
        have y59 : A.eval (.tmp 59) = _ := hf 59
        have y60 : A.eval (.tmp 60) = _ := hf 60
        have y61 : A.eval (.tmp 61) = _ := hf 61
        have y62 : A.eval (.tmp 62) = _ := hf 62
        have y63 : A.eval (.tmp 63) = _ := hf 63
        have y64 : A.eval (.tmp 64) = _ := hf 64
        have y65 : A.eval (.tmp 65) = _ := hf 65
        have y66 : A.eval (.tmp 66) = _ := hf 66
        have y69 : A.eval (.tmp 69) = _ := hf 69
        have y70 : A.eval (.tmp 70) = _ := hf 70
        have y71 : A.eval (.tmp 71) = _ := Eq.trans (hf 71) (by conv => lhs; simp [go_sem])
        have y72 : A.eval (.tmp 72) = _ := Eq.trans (hf 72) (by conv => lhs; simp [go_sem])
        have y73 : A.eval (.tmp 73) = _ := Eq.trans (hf 73) (by conv => lhs; simp [go_sem])
        have y74 : A.eval (.tmp 74) = _ := Eq.trans (hf 74) (by conv => lhs; simp [go_sem])
        have y75 : A.eval (.tmp 75) = _ := Eq.trans (hf 75) (by conv => lhs; simp [go_sem])
        have y76 : A.eval (.tmp 76) = _ := Eq.trans (hf 76) (by conv => lhs; simp [go_sem])
        have y77 : A.eval (.tmp 77) = _ := Eq.trans (hf 77) (by conv => lhs; simp [go_sem])
        have y78 : A.eval (.tmp 78) = _ := Eq.trans (hf 78) (by conv => lhs; simp [go_sem])
        have y79 : A.eval (.tmp 79) = _ := Eq.trans (hf 79) (by conv => lhs; simp [go_sem])
        have y80 : A.eval (.tmp 80) = _ := Eq.trans (hf 80) (by conv => lhs; simp [go_sem])
        have y81 : A.eval (.tmp 81) = _ := Eq.trans (hf 81) (by conv => lhs; simp [go_sem])
        have y82 : A.eval (.tmp 82) = _ := Eq.trans (hf 82) (by conv => lhs; simp [go_sem])
        have y83 : A.eval (.tmp 83) = _ := Eq.trans (hf 83) (by conv => lhs; simp [go_sem])
        have y84 : A.eval (.tmp 84) = _ := Eq.trans (hf 84) (by conv => lhs; simp [go_sem])
        have y85 : A.eval (.tmp 85) = _ := Eq.trans (hf 85) (by conv => lhs; simp [go_sem])
        have y86 : A.eval (.tmp 86) = _ := Eq.trans (hf 86) (by conv => lhs; simp [go_sem])
        have y87 : A.eval (.tmp 87) = _ := Eq.trans (hf 87) (by conv => lhs; simp [go_sem])
        have y88 : A.eval (.tmp 88) = _ := Eq.trans (hf 88) (by conv => lhs; simp [go_sem])
        have y89 : A.eval (.tmp 89) = _ := Eq.trans (hf 89) (by conv => lhs; simp [go_sem])
        have y90 : A.eval (.tmp 90) = _ := Eq.trans (hf 90) (by conv => lhs; simp [go_sem])
        have y91 : A.eval (.tmp 91) = _ := Eq.trans (hf 91) (by conv => lhs; simp [go_sem])
        have y92 : A.eval (.tmp 92) = _ := Eq.trans (hf 92) (by conv => lhs; simp [go_sem])
        have y93 : A.eval (.tmp 93) = _ := Eq.trans (hf 93) (by conv => lhs; simp [go_sem])
        have y94 : A.eval (.tmp 94) = _ := Eq.trans (hf 94) (by conv => lhs; simp [go_sem])
        have y95 : A.eval (.tmp 95) = _ := Eq.trans (hf 95) (by conv => lhs; simp [go_sem])
        have y96 : A.eval (.tmp 96) = _ := Eq.trans (hf 96) (by conv => lhs; simp [go_sem])
        have y97 : A.eval (.tmp 97) = _ := Eq.trans (hf 97) (by conv => lhs; simp [go_sem])
        have y98 : A.eval (.tmp 98) = _ := Eq.trans (hf 98) (by conv => lhs; simp [go_sem])
        have y99 : A.eval (.tmp 99) = _ := Eq.trans (hf 99) (by conv => lhs; simp [go_sem])
        clear hf
        have hA := frame_eq hn
        rw [show List.range 100 = [0, 1, 2, 3, 4, 5, 6, 7, 8, 9, 10, 11, 12, 13, 14, 15, 16, 17, 18, 19, 20, 21, 22, 23, 24, 25, 26, 27, 28, 29, 30, 31, 32, 33, 34, 35, 36, 37, 38, 39, 40, 41, 42, 43, 44, 45, 46, 47, 48, 49, 50, 51, 52, 53, 54, 55, 56, 57, 58, 59, 60, 61, 62, 63, 64, 65, 66, 67, 68, 69, 70, 71, 72, 73, 74, 75, 76, 77, 78, 79, 80, 81, 82, 83, 84, 85, 86, 87, 88, 89, 90, 91, 92, 93, 94, 95, 96, 97, 98, 99] from rfl, hd] at hA
        simp only [List.map_cons, List.map_nil, y0, y1, y2, y3, y4, y5, y6, y7, y8, y9, y10, y11, y12, y13, y14, y15, y16, y17, y18, y19, y20, y21, y22, y23, y24, y25, y26, y27, y28, y29, y30, y31, y32, y33, y34, y35, y36, y37, y38, y39, y40, y41, y42, y43, y44, y45, y46, y47, y48, y49, y50, y51, y52, y53, y54, y55, y56, y57, y58, y59, y60, y61, y62, y63, y64, y65, y66, y67, y68, y69, y70, y71, y72, y73, y74, y75, y76, y77, y78, y79, y80, y81, y82, y83, y84, y85, y86, y87, y88, y89, y90, y91, y92, y93, y94, y95, y96, y97, y98, y99] at hA
        clear y0 y1 y2 y3 y4 y5 y6 y7 y8 y9 y10 y11 y12 y13 y14 y15 y16 y17 y18 y19 y20 y21 y22 y23 y24 y25 y26 y27 y28 y29 y30 y31 y32 y33 y34 y35 y36 y37 y38 y39 y40 y41 y42 y43 y44 y45 y46 y47 y48 y49 y50 y51 y52 y53 y54 y55 y56 y57 y58 y59 y60 y61 y62 y63 y64 y65 y66 y67 y68 y69 y70 y71 y72 y73 y74 y75 y76 y77 y78 y79 y80 y81 y82 y83 y84 y85 y86 y87 y88 y89 y90 y91 y92 y93 y94 y95 y96 y97 y98 y99
        clear hn hd
        subst hA
        obtain ⟨hC1, hC2⟩ := hC
        obtain ⟨hbK, hb0, hV5, hov, hg2b⟩ := HNUM.out
        have hWK : ∀ g, (Value.slice aW s.W.length cW).ownBlock = some g → g < w0.heap.size := fun g hg => HX0.out.lt g (HX0.out.wf g hg)
        have hyk : YOk W8 (fun x => FN K w0 W8 x ∧ ¬ (Value.slice (some ⟨g8, 0, none⟩) (Yk.length + 1) cap8).ownBlock = some x) (.slice aW s.W.length cW) ((Y ++ Yk) ++ [((N, au, ys.length, cu), (N, ys))]) := fun y hy => by
          rcases List.mem_append.1 hy with h1 | h1
          · exact HX8.out.yk y h1
          · rw [List.mem_singleton.1 h1]
            refine ⟨rfl, ⟨HU8.out.os, rfl, fun a n c e hn => ?_⟩⟩
            have hob : (Value.slice au ys.length cu).ownBlock = some a.block := by
              have e' : Value.slice au ys.length cu = .slice (some a) n c := e
              rw [e']; rfl
            obtain ⟨l1, l2⟩ := World.ownsRow.lt HU8.out a.block hob
            exact ⟨⟨.inr ⟨l1, l2⟩, fun e2 => (own_blk HQ8.out e2).ne (own_blk HU8.out hob) (by decide) rfl⟩, own_blk HU8.out hob, fun e2 => by have := hWK a.block e2; omega⟩
        have x10 := HX8.out.oset hC1 (vO' := .slice (some ⟨gq, 0, none⟩) (us.length + 1) cq) (Y' := (Y ++ Yk) ++ [((N, au, ys.length, cu), (N, ys))]) (by
          rw [List.map_append, HUS.out]
          exact OQ) (fun g hg => by
          have e' : gq = g := by cases hg; rfl
          subst e'
          exact HQ9.imp (fun e => HX8.out.of gq e) (fun e => e)) hyk
        obtain ⟨W10, hW10⟩ : ∃ W10, W9.setCell ⟨b, 3, none⟩ (.slice (some ⟨gq, 0, none⟩) (us.length + 1) cq) = W10 := ⟨_, rfl⟩
        rw [hW10] at x10
        have hb8 : b < W8.heap.size := by have := HC8.out.size; omega
        have hOb : ¬ (Value.slice aK us.length cK).ownBlock = some b := fun e => (own_blk HX8.out.ot e).ne HX8.out.bt (by decide) rfl
        have hOg : ¬ (Value.slice aK us.length cK).ownBlock = some g2 := fun e => (HVO.out g2 e).elim (fun h => by have := HX0.out.lt g2 h; omega) (fun h => by omega)
        have hg28 : g2 < W8.heap.size := by have := HCV8.out.size; omega
        have e3 : W9.cell? ⟨b, 3, none⟩ = some (.slice aK us.length cK) := (hC1.cell hb8 hOb).trans HQ18.out.2.2
        have ef : ∀ j, W9.frozen? ⟨b, j, none⟩ = false := fun j => (hC1.frozen hb8 hOb).trans (HX8.out.cells.2.2.2.2.2.2 j)
        have hcw10 : Chg (fun x => x = b) W9 W10 := hW10 ▸ chg_pt _ _ _ _
        have hs10 : W10.heap.size = W9.heap.size := by rw [← hW10]; simp [World.setCell]
        -- how often each was sent
        obtain ⟨g11, cap11, W11, hr11, hn11, hb11, hc11, hv11⟩ := run_n W10 0 (.slice aZ ms.length cZ) ms x10.st 1 (by omega) (Nat.zero_le _) (ty := 31)
        have x11 := x10.sset hc11 (OwNS.to hn11) (fun g hg => by
          have e' : g11 = g := by cases hg; rfl
          subst e'
          exact hv11.imp (fun e => x10.sf g11 e) (fun e => e))
        obtain ⟨W12, hW12⟩ : ∃ W12, W11.setCell ⟨b, 4, none⟩ (.slice (some ⟨g11, 0, none⟩) (ms.length + 1) cap11) = W12 := ⟨_, rfl⟩
        rw [hW12] at x11
        obtain ⟨f0, f1, f2, f3, f4, f5, ff⟩ := x10.cells
        have hSb : ¬ (Value.slice aZ ms.length cZ).ownBlock = some b := fun e => (own_blk x10.st e).ne x10.bt (by decide) rfl
        have hb10 : b < W10.heap.size := x10.lt b x10.fb
        have i4 : W11.cell? ⟨b, 4, none⟩ = some (.slice aZ ms.length cZ) := (hc11.cell hb10 hSb).trans f4
        have iff' : ∀ j, W11.frozen? ⟨b, j, none⟩ = false := fun j => (hc11.frozen hb10 hSb).trans (ff j)
        have hcw12 : Chg (fun x => x = b) W11 W12 := hW12 ▸ chg_pt _ _ _ _
        have hs12 : W12.heap.size = W11.heap.size := by rw [← hW12]; simp [World.setCell]
        have hgb : g2 ≠ b := by omega
        have hSg : ¬ (Value.slice aZ ms.length cZ).ownBlock = some g2 := fun e => (HVS.out g2 e).elim (fun h => by have := HX0.out.lt g2 h; omega) (fun h => by omega)
        have z9 := hC1.size
        have z11 := hc11.size
        have q0c : W12.cell? ⟨g2, k * 2, none⟩ = some (.int .i64 N) := (hcw12.cell (by omega) hgb).trans ((hc11.cell (by omega) hSg).trans ((hcw10.cell (by omega) hgb).trans ((hC1.cell hg28 hOg).trans HQ18.out.1)))
        have x12 := x11.nset (z_nxt N)
        have hnx : z_nxt N = numAt s.nx (k + 1) := by
          have h9 := sdT_num HOK.out k HHK.out
          rw [HX9.out] at h9
          have h8 : N = numAt s.nx k := h9
          rw [numAt_succ, ← h8]
          unfold z_nxt nxt
          omega
        have hcK : ∀ W W' : World, ∀ v : Value, Chg K w0 W → Chg (fun k => v.ownBlock = some k) W W' → (∀ g, v.ownBlock = some g → K g ∨ V5.heap.size ≤ g) → Chg K w0 W' := fun W W' v h1 h2 h3 => h1.trans h2 (fun x hx e => (h3 x e).elim (fun h => h) (fun h => by omega))
        have hcV : ∀ W W' : World, ∀ v : Value, Chg K V5 W → Chg (fun k => v.ownBlock = some k) W W' → (∀ g, v.ownBlock = some g → K g ∨ V5.heap.size ≤ g) → Chg K V5 W' := fun W W' v h1 h2 h3 => h1.trans h2 (fun x hx e => (h3 x e).elim (fun h => h) (fun h => by omega))
        have k10 : Chg K w0 W10 := (hcK _ _ _ HC8.out hC1 HVO.out).trans hcw10 (fun x _ e => by rw [e]; exact hbK)
        have k12 : Chg K w0 W12 := (hcK _ _ _ k10 hc11 HVS.out).trans hcw12 (fun x _ e => by rw [e]; exact hbK)
        have v10 : Chg K V5 W10 := (hcV _ _ _ HCV8.out hC1 HVO.out).trans hcw10 (fun x _ e => by rw [e]; exact hbK)
        have v12 : Chg K V5 W12 := (hcV _ _ _ v10 hc11 HVS.out).trans hcw12 (fun x _ e => by rw [e]; exact hbK)
        have k13 : Chg K w0 (W12.setCell ⟨b, 5, none⟩ (.int .i64 (z_nxt N))) := k12.setCell (.inl hbK) _
        have v13 : Chg K V5 (W12.setCell ⟨b, 5, none⟩ (.int .i64 (z_nxt N))) := v12.setCell (.inl hbK) _
        have hqn : OwQS (W12.setCell ⟨b, 5, none⟩ (.int .i64 (z_nxt N))) V5.heap.size (.slice (some ⟨g8, 0, none⟩) (Yk.length + 1) cap8) (uk ++ [(N, au, ys.length, cu)]) := by
          have h1 := own_chg HQ8.out hC1 (fun g hg e => by
            have h2 := HX8.out.of g e
            exact h2.2 hg)
          have h2 := own_chg h1 hcw10 (fun g hg e => by subst e; exact (own_blk h1 hg).ne (⟨_, _, (hC1.block g hb8 hOb).trans HX8.out.hp⟩ : BlkT W9 g 33) (by decide) rfl)
          have h3 := own_chg h2 hc11 (fun g hg e => (own_blk h2 hg).ne (own_blk x10.st e) (by decide) rfl)
          have hbt11 : BlkT W11 b 33 := x10.bt.chg hc11 hSb
          have h4 := own_chg h3 hcw12 (fun g hg e => by subst e; exact (own_blk h3 hg).ne hbt11 (by decide) rfl)
          exact own_chg h4 (chg_pt _ _ _ _) (fun g hg e => by subst e; exact (own_blk h4 hg).ne x11.bt (by decide) rfl)
        have s13 : (W12.setCell ⟨b, 5, none⟩ (.int .i64 (z_nxt N))).heap.size = W12.heap.size := by simp [World.setCell]
        have x13 : XZ (W12.setCell ⟨b, 5, none⟩ (.int .i64 (z_nxt N))) (fun x => FN K w0 (W12.setCell ⟨b, 5, none⟩ (.int .i64 (z_nxt N))) x ∧ ¬ (Value.slice (some ⟨g8, 0, none⟩) (Yk.length + 1) cap8).ownBlock = some x) b { s with nx := numAt s.nx (k + 1) } ((Y ++ Yk) ++ [((N, au, ys.length, cu), (N, ys))]) (ms ++ [1]) (.slice aW s.W.length cW) (.slice (some ⟨gq, 0, none⟩) (us.length + 1) cq) (.slice (some ⟨g11, 0, none⟩) (ms.length + 1) cap11) := by
          have hz8 := HC8.out.size
          obtain ⟨_, hg8l⟩ := HGG.out
          refine (x12.same (s' := { s with nx := numAt s.nx (k + 1) }) rfl hnx.symm rfl rfl).mono (fun x hx => ?_) (fun x hx => FN.lt HX0.out.lt k13.size x hx.1)
          rcases hx with (hx | hx) | hx
          · exact ⟨hx.1.imp (fun e => e) (fun e => ⟨e.1, by omega⟩), hx.2⟩
          · exact ⟨.inr (by omega), fun e => by have e' : g8 = x := by cases e; rfl
                                                omega⟩
          · exact ⟨.inr (by omega), fun e => by have e' : g8 = x := by cases e; rfl
                                                omega⟩
        have HX13 := Lib.hid x13
        have HQN := Lib.hid hqn
        have HK13 := Lib.hid k13
        have HV13 := Lib.hid v13
        have HVO2 : Hid (∀ g, (Value.slice (some ⟨gq, 0, none⟩) (us.length + 1) cq).ownBlock = some g → K g ∨ V5.heap.size ≤ g) := fun g hg => by
          have e' : gq = g := by cases hg; rfl
          subst e'
          exact HQ9.elim (fun e => HVO.out gq e) (fun e => .inr (Nat.le_trans HCV8.out.size e))
        have HVS2 : Hid (∀ g, (Value.slice (some ⟨g11, 0, none⟩) (ms.length + 1) cap11).ownBlock = some g → K g ∨ V5.heap.size ≤ g) := fun g hg => by
          have e' : g11 = g := by cases hg; rfl
          subst e'
          exact hv11.elim (fun e => HVS.out g11 e) (fun e => .inr (Nat.le_trans v10.size e))
        have HR11 := Lib.hid hr11
        have HF4 := Lib.hid (And.intro f4 ff)
        have HI4 := Lib.hid (And.intro i4 iff')
        have HQ0C := Lib.hid q0c
        obtain ⟨j0, j1, j2, j3, j4, j5, jf⟩ := x11.cells
        have HJ5 := Lib.hid (And.intro j5 jf)
        have HW10 := Lib.hid hW10
        have HW12 := Lib.hid hW12
        have CNX := Lib.hid (rnext_any N W12)
        clear hC1 hC2 hbK hb0 hV5 hov hg2b hWK hyk x10 hW10 hb8 hOb hOg hg28 hcw10 hs10 hr11 hn11 hb11 hc11 hv11 x11 hW12 f0 f1 f2 f3 f4 f5 ff hSb hb10 i4 iff' hcw12 hs12 hgb hSg z9 z11 q0c x12 hnx hcK hcV k10 k12 v10 v12 k13 v13 hqn s13 x13 j0 j1 j2 j3 j4 j5 jf OQ HQ9 kc10 HROWW
        go_upto_region 11 with (fail)
        rw [HW10.out]
        clear e3 ef
        obtain ⟨f4, ff⟩ := HF4.out
        go_upto_region 12 with (at_builtin; refine app_go rfl (.tmp 75) (.tmp 76) 31 rfl _ _ _ _ rfl rfl HR11.out ?_; obtain ⟨i4, iff'⟩ := HI4.out; clear f4 ff)
        rw [HW12.out]
        have q0c := HQ0C.out
        go_wp2_with fail
        refine CNX.out.mono ?_
        rintro e W13 ⟨rfl, rfl⟩
        obtain ⟨j5, jf⟩ := HJ5.out
        clear q0c
        have hy2 : (Yk ++ [((N, au, ys.length, cu), (N, ys))] : Ys).length = Yk.length + 1 := by rw [List.length_append]; rfl
        have hu2 : (us ++ [(N, au, ys.length, cu)] : List Bq).length = us.length + 1 := by rw [List.length_append]; rfl
        have hm2 : (ms ++ [1] : List Int).length = ms.length + 1 := by rw [List.length_append]; rfl
        have HY2 := Lib.hid (And.intro hy2 (And.intro hu2 hm2))
        have HCN2 : Hid (cnt ((sdT s).take (k + 1)) = cnt ((sdT s).take k) + ys.length) := HCN.out
        clear hy2 hu2 hm2
        go_wp2_with fail
        go_roundw
        case rel =>
          obtain ⟨hy2, hu2, hm2⟩ := HY2.out
          have hl1 := HLN.out
          have hl2 := HYL.out
          have hks := HHK.out
          refine ⟨k + 1, some ⟨g8, 0, none⟩, cap8, us ++ [(N, au, ys.length, cu)], ms ++ [1], some ⟨gq, 0, none⟩, cq, some ⟨g11, 0, none⟩, cap11, Yk ++ [((N, au, ys.length, cu), (N, ys))], hks, hlt, by go_num, by rw [HCN2.out]; go_num, by rw [hy2], by rw [hu2]; omega, by rw [hm2]; omega, by rw [hy2]; omega, ?_, ?_, by rw [hy2]; show _ = _; omega, ⟨by rw [hu2]; omega, by rw [hm2]; omega⟩, ?_, ?_, ?_, HK13.out, HV13.out, ?_, ?_⟩
          · show _ = _
            rw [← List.append_assoc, List.map_append, HUS.out]
            rfl
          · show _ = _
            rw [List.replicate_succ', ← List.append_assoc, HMS.out]
          · show _ = _
            rw [List.map_append, HYS.out, sdT_one hks, HX9.out]
            rfl
          · show XZ _ _ _ _ _ _ _ _ _
            rw [← List.append_assoc, hy2, hu2, hm2]
            exact HX13.out
          · show OwQS _ _ _ _
            rw [hy2, List.map_append, HUKK.out]
            exact HQN.out
          · show ∀ g, _
            rw [hu2]
            exact HVO2.out
          · show ∀ g, _
            rw [hm2]
            exact HVS2.out
        case measure => simp [intOf]; omega
      · have hd : decide (far f N < s.win) = false := decide_eq_false hw
        have hke : k = (sdT s).length := by
          rcases Nat.lt_or_ge k (sdT s).length with h9 | h9
          · exfalso
            obtain ⟨R, hR, _⟩ := sdT_split s
            have hx9 := HXP.out
            rw [HPK.out.symm.trans hR, getD_app h9] at hx9
            have h8 := sdT_in (getD_mem (d := zb) h9)
            rw [hx9, HFS.out] at h8
            exact hw h8
          · omega
        have hxf := HX.out.below HC6.out
        have hqf : OwQS W4 V5.heap.size (.slice ao Yk.length co) (Yk.map Prod.fst) := gown_below HQ.out HC6.out
        have hcf : Chg K w0 W4 := HC.out.trans (G := fun _ => False) (chg0 HC6.out) (fun _ _ e => e.elim)
        simp only [hd]
        clear hw hd HXP HU HQQ
        have hcs := cnt_le (s := s) k
        have hcs2 : cnt ((sdT s).take k) ≤ 1024 := Nat.le_trans hcs HWT.out
        have hmsl : M ++ List.replicate (sdT s).length 1 = ms := by rw [← hke]; exact HMS.out
        have hyo : Yk.map Prod.snd = sdT s := by rw [HYS.out, hke, List.take_of_length_le (Nat.le_refl _)]
        have hct : cnt ((sdT s).take k) = cnt (sdT s) := by rw [hke, List.take_of_length_le (Nat.le_refl _)]
        have HWF : Hid (OwO W4 0 (.slice aW s.W.length cW) s.W) := hxf.wt
        have hxq := hxf
        rw [hke] at hxq
        have hfin := fun (r : Value) (w14 : World) (hb14 : Below W4.heap.size W4 w14) (ho : OwO w14 W4.heap.size r (s.W.drop (cnt (sdT s)))) => xsend_fin (w0 := w0) (K := K) hxq HY.out HM.out hmsl hyo hqf (fun x hx => hx.1.imp (fun e => e) (fun e => e.1)) hcf HX0.out.fb hb14 ho
        obtain ⟨d0, d1, d2, d3, d4, d5, df⟩ := hxf.cells
        have HDF := Lib.hid (And.intro d2 df)
        have hbl := hxf.lt b hxf.fb
        rw [hct] at hcs hcs2
        have hcn0 := hct
        obtain ⟨n, hn⟩ : ∃ n, cnt (sdT s) = n := ⟨_, rfl⟩
        rw [hn] at hcs hcs2 hfin hct
        have HFIN := Lib.hid hfin
        try simp only [hct]
        clear hmsl hyo hct hxq hxf hqf hcf hke hn hcn0 hfin d0 d1 d3 d4 d5 HX HQ HC HCV HVO HVS HUS HMS HYL HLN HYS HROW HC5
        cases aW with
        | none =>
          have hw0 : s.W.length = 0 ∧ cW = 0 := by
            rcases HWF.out.2 with ⟨h1, h2⟩ | ⟨g', cap', cur, hv, _⟩
            · simp only [Value.slice.injEq] at h1
              exact ⟨h2, h1.2.2⟩
            · cases hv
          have hwn : s.W = [] := List.eq_nil_of_length_eq_zero hw0.1
          have hn0 : n = 0 := by omega
          have hc0 := hw0.2
          rw [hw0.1] at d2
          subst hn0
          subst hc0
          have CO := Lib.hid (own_any (.slice none 0 0) [] W4 (os_nil W4) (Nat.zero_le _))
          have HWN := Lib.hid hwn
          clear hw0 hwn
          go_wp2_with fail
          refine CO.out.mono ?_
          rintro e w14 ⟨r, rfl, ho, hb14⟩
          obtain ⟨ar, cr, rfl⟩ := own_form ho
          have hq14 := HFIN.out _ w14 hb14 (by rw [HWN.out]; exact ho)
          have HQ14 := Lib.hid hq14
          have e2 := (hb14.cell (p := ⟨b, 2, none⟩) hbl).trans HDF.out.1
          have ef : ∀ j, w14.frozen? ⟨b, j, none⟩ = false := fun j => (hb14.frozen (p := ⟨b, j, none⟩) hbl).trans (HDF.out.2 j)
          clear ho hb14 d2 df hq14
          go_wp2_with fail
          go_ret
          exact ⟨_, rfl, HQ14.out⟩
        | some ad =>
          obtain ⟨g, rfl⟩ := own_zero HWF.out
          obtain ⟨hcap, A0, hA, hot9⟩ := os_tail HWF.out hcs
          have hlen : (s.W.drop n).length = s.W.length - n := List.length_drop ..
          rw [← hlen] at hot9
          have CO := own_any (.slice (some A0) (s.W.drop n).length (cW - n)) (s.W.drop n) W4 hot9 (by rw [hlen]; have := HWT.out; omega)
          have HLEN := Lib.hid hlen
          rw [hlen] at CO
          have HCO := Lib.hid CO
          clear hot9 CO hlen
          go_wp2_with fail
          refine HCO.out.mono ?_
          rintro e w14 ⟨r, rfl, ho, hb14⟩
          have hq14 := HFIN.out _ w14 hb14 (by
            show w14.ownsRow _ _ _ _ (s.W.drop n).length _
            rw [HLEN.out]
            exact ho)
          obtain ⟨ar, cr, rfl⟩ := own_form ho
          have HQ14 := Lib.hid hq14
          have e2 := (hb14.cell (p := ⟨b, 2, none⟩) hbl).trans HDF.out.1
          have ef : ∀ j, w14.frozen? ⟨b, j, none⟩ = false := fun j => (hb14.frozen (p := ⟨b, j, none⟩) hbl).trans (HDF.out.2 j)
          clear ho hb14 d2 df hq14 HCO
          go_wp2_with fail
          go_ret
          exact ⟨_, rfl, HQ14.out⟩
    · have hke : k = (sdT s).length := by
        obtain ⟨R, hR, _⟩ := sdT_split s
        have h9 : P.length = (sdT s).length + R.length := by rw [← HPK.out, hR, List.length_append]
        omega
      have hltf : ¬ (k : Int) < P.length := by omega
      have kc6 : ∀ w', Below wr.heap.size wr w' → True := fun _ _ => trivial
      clear hx c0 c1 c2 c3 c4 c5 cf
      go_upto_region 6 with (fail)
      refine wp_region_typed (C := fun w' => Below wr.heap.size wr w') (X := fun w w' => Below w.heap.size w w') (n := 100) (by kernel_rfl) (by kernel_rfl) rfl (fun w => Below.refl _ w) (Below.refl _ _).drew ?_
      refine w_is (fun w => Below.refl _ w) _ (.inl rfl) (fun ρ w hC hc hfn hf => by have e8 : ρ (.tmp 8) = _ := hf 8 (by decide); (conv => lhs; simp [execOp, go_sem, hc, e8])) ?_
      refine w_is (fun w => Below.refl _ w) _ (.inl rfl) (fun ρ w hC hc hfn hf => by have e3 : ρ (.tmp 3) = _ := hf 3 (by decide); (conv => lhs; simp [execOp, go_sem, hc, e3])) ?_
      refine w_is (fun w => Below.refl _ w) _ (.inl rfl) (fun ρ w hC hc hfn hf => by have e24 : ρ (.tmp 24) = _ := hf 24 (by decide); (conv => lhs; simp [execOp, go_sem, hc, e24])) ?_
      refine w_is (fun w => Below.refl _ w) _ (.inl rfl) (fun ρ w hC hc hfn hf => by have e23 : ρ (.tmp 23) = _ := hf 23 (by decide); have e25 : ρ (.tmp 25) = _ := hf 25 (by decide); (conv => lhs; simp [execOp, go_sem, hc, e23, e25, hltf])) ?_
      refine w_is (fun w => Below.refl _ w) _ (.inl rfl) (fun ρ w hC hc hfn hf => by have e26 : ρ (.tmp 26) = _ := hf 26 (by decide); (conv => lhs; simp [execOp, go_sem, hc, e26])) ?_
      refine w_skip rfl rfl (known_is rfl) ?_
      refine w_skip rfl rfl (known_is rfl) ?_
      refine w_skip rfl rfl (known_is rfl) ?_
      refine w_skip rfl rfl (known_is rfl) ?_
      refine w_skip rfl rfl (known_is rfl) ?_
      refine w_skip rfl rfl (known_is rfl) ?_
      refine w_skip rfl rfl (known_is rfl) ?_
      refine w_skip rfl rfl (known_is rfl) ?_
      refine w_skip rfl rfl (known_is rfl) ?_
      refine w_skip rfl rfl (known_is rfl) ?_
      refine w_skip rfl rfl (known_is rfl) ?_
      refine w_skip rfl rfl (known_is rfl) ?_
      refine w_is (fun w => Below.refl _ w) _ (.inl rfl) (fun ρ w hC hc hfn hf => by have e27 : ρ (.tmp 27) = _ := hf 27 (by decide); have e39 : ρ (.tmp 39) = _ := hf 39 (by decide); (conv => lhs; simp [execOp, go_sem, hc, e27, e39])) ?_
      intro A W4 hC hn hd hf
      have y0 : A.eval (.tmp 0) = _ := Eq.trans (hf 0) (by conv => lhs; simp [go_sem])
      have y1 : A.eval (.tmp 1) = _ := Eq.trans (hf 1) (by conv => lhs; simp [go_sem])
      have y2 : A.eval (.tmp 2) = _ := Eq.trans (hf 2) (by conv => lhs; simp [go_sem])
      have y3 : A.eval (.tmp 3) = _ := Eq.trans (hf 3) (by conv => lhs; simp [go_sem])
      have y4 : A.eval (.tmp 4) = _ := Eq.trans (hf 4) (by conv => lhs; simp [go_sem])
      have y5 : A.eval (.tmp 5) = _ := Eq.trans (hf 5) (by conv => lhs; simp [go_sem])
      have y6 : A.eval (.tmp 6) = _ := Eq.trans (hf 6) (by conv => lhs; simp [go_sem])
      have y7 : A.eval (.tmp 7) = _ := Eq.trans (hf 7) (by conv => lhs; simp [go_sem])
      have y8 : A.eval (.tmp 8) = _ := Eq.trans (hf 8) (by conv => lhs; simp [go_sem])
      have y9 : A.eval (.tmp 9) = _ := Eq.trans (hf 9) (by conv => lhs; simp [go_sem])
      have y10 : A.eval (.tmp 10) = _ := Eq.trans (hf 10) (by conv => lhs; simp [go_sem])
      have y11 : A.eval (.tmp 11) = _ := Eq.trans (hf 11) (by conv => lhs; simp [go_sem])
      have y12 : A.eval (.tmp 12) = _ := Eq.trans (hf 12) (by conv => lhs; simp [go_sem])
      have y13 : A.eval (.tmp 13) = _ := Eq.trans (hf 13) (by conv => lhs; simp [go_sem])
      have y14 : A.eval (.tmp 14) = _ := Eq.trans (hf 14) (by conv => lhs; simp [go_sem])
      have y15 : A.eval (.tmp 15) = _ := Eq.trans (hf 15) (by conv => lhs; simp [go_sem])
      have y16 : A.eval (.tmp 16) = _ := Eq.trans (hf 16) (by conv => lhs; simp [go_sem])
      have y17 : A.eval (.tmp 17) = _ := Eq.trans (hf 17) (by conv => lhs; simp [go_sem])
      have y18 : A.eval (.tmp 18) = _ := Eq.trans (hf 18) (by conv => lhs; simp [go_sem])
      have y19 : A.eval (.tmp 19) = _ := Eq.trans (hf 19) (by conv => lhs; simp [go_sem])
      have y20 : A.eval (.tmp 20) = _ := Eq.trans (hf 20) (by conv => lhs; simp [go_sem])
      have y21 : A.eval (.tmp 21) = _ := Eq.trans (hf 21) (by conv => lhs; simp [go_sem])
      have y22 : A.eval (.tmp 22) = _ := Eq.trans (hf 22) (by conv => lhs; simp [go_sem])
      have y23 : A.eval (.tmp 23) = _ := hf 23
      have y24 : A.eval (.tmp 24) = _ := hf 24
      have y25 : A.eval (.tmp 25) = _ := hf 25
      have y26 : A.eval (.tmp 26) = _ := hf 26
      have y27 : A.eval (.tmp 27) = _ := hf 27
      have y28 : A.eval (.tmp 28) = _ := hf 28
      have y29 : A.eval (.tmp 29) = _ := hf 29
      have y30 : A.eval (.tmp 30) = _ := hf 30
      have y31 : A.eval (.tmp 31) = _ := hf 31
      have y32 : A.eval (.tmp 32) = _ := hf 32
      have y33 : A.eval (.tmp 33) = _ := hf 33
      have y34 : A.eval (.tmp 34) = _ := hf 34
      have y35 : A.eval (.tmp 35) = _ := hf 35
      have y36 : A.eval (.tmp 36) = _ := hf 36
      have y37 : A.eval (.tmp 37) = _ := hf 37
      have y38 : A.eval (.tmp 38) = _ := hf 38
      have y39 : A.eval (.tmp 39) = _ := hf 39
      have y40 : A.eval (.tmp 40) = _ := hf 40
      have y41 : A.eval (.tmp 41) = _ := Eq.trans (hf 41) (by conv => lhs; simp [go_sem])
      have y42 : A.eval (.tmp 42) = _ := Eq.trans (hf 42) (by conv => lhs; simp [go_sem])
      have y43 : A.eval (.tmp 43) = _ := Eq.trans (hf 43) (by conv => lhs; simp [go_sem])
      have y44 : A.eval (.tmp 44) = _ := Eq.trans (hf 44) (by conv => lhs; simp [go_sem])
      have y45 : A.eval (.tmp 45) = _ := Eq.trans (hf 45) (by conv => lhs; simp [go_sem])
      have y46 : A.eval (.tmp 46) = _ := Eq.trans (hf 46) (by conv => lhs; simp [go_sem])
      have y47 : A.eval (.tmp 47) = _ := Eq.trans (hf 47) (by conv => lhs; simp [go_sem])
      have y48 : A.eval (.tmp 48) = _ := Eq.trans (hf 48) (by conv => lhs; simp [go_sem])
      have y49 : A.eval (.tmp 49) = _ := Eq.trans (hf 49) (by conv => lhs; simp [go_sem])
      have y50 : A.eval (.tmp 50) = _ := Eq.trans (hf 50) (by conv => lhs; simp [go_sem])
      have y51 : A.eval (.tmp 51) = _ := Eq.trans (hf 51) (by conv => lhs; simp [go_sem])
      have y52 : A.eval (.tmp 52) = _ := Eq.trans (hf 52) (by conv => lhs; simp [go_sem])
      have y53 : A.eval (.tmp 53) = _ := Eq.trans (hf 53) (by conv => lhs; simp [go_sem])
      have y54 : A.eval (.tmp 54) = _ := Eq.trans (hf 54) (by conv => lhs; simp [go_sem])
      have y55 : A.eval (.tmp 55) = _ := Eq.trans (hf 55) (by conv => lhs; simp [go_sem])
      have y56 : A.eval (.tmp 56) = _ := Eq.trans (hf 56) (by conv => lhs; simp [go_sem])
      have y57 : A.eval (.tmp 57) = _ := Eq.trans (hf 57) (by conv => lhs; simp [go_sem])
      have y58 : A.eval (.tmp 58) = _ := Eq.trans (hf 58) (by conv => lhs; simp [go_sem])
      have y59 : A.eval (.tmp 59) = _ := Eq.trans (hf 59) (by conv => lhs; simp [go_sem])
      have y60 : A.eval (.tmp 60) = _ := Eq.trans (hf 60) (by conv => lhs; simp [go_sem])
      have y61 : A.eval (.tmp 61) = _ := Eq.trans (hf 61) (by conv => lhs; simp [go_sem])
      have y62 : A.eval (.tmp 62) = _ := Eq.trans (hf 62) (by conv => lhs; simp [go_sem])
      have y63 : A.eval (.tmp 63) = _ := Eq.trans (hf 63) (by conv => lhs; simp [go_sem])
      have y64 : A.eval (.tmp 64) = _ := Eq.trans (hf 64) (by conv => lhs; simp [go_sem])
      have y65 : A.eval (.tmp 65) = _ := Eq.trans (hf 65) (by conv => lhs; simp [go_sem])
      have y66 : A.eval (.tmp 66) = _ := Eq.trans (hf 66) (by conv => lhs; simp [go_sem])
      have y67 : A.eval (.tmp 67) = _ := Eq.trans (hf 67) (by conv => lhs; simp [go_sem])
      have y68 : A.eval (.tmp 68) = _ := Eq.trans (hf 68) (by conv => lhs; simp [go_sem])
      have y69 : A.eval (.tmp 69) = _ := Eq.trans (hf 69) (by conv => lhs; simp [go_sem])
      have y70 : A.eval (.tmp 70) = _ := Eq.trans (hf 70) (by conv => lhs; simp [go_sem])
      have y71 : A.eval (.tmp 71) = _ := Eq.trans (hf 71) (by conv => lhs; simp [go_sem])
      have y72 : A.eval (.tmp 72) = _ := Eq.trans (hf 72) (by conv => lhs; simp [go_sem])
      have y73 : A.eval (.tmp 73) = _ := Eq.trans (hf 73) (by conv => lhs; simp [go_sem])
      have y74 : A.eval (.tmp 74) = _ := Eq.trans (hf 74) (by conv => lhs; simp [go_sem])
      have y75 : A.eval (.tmp 75) = _ := Eq.trans (hf 75) (by conv => lhs; simp [go_sem])
      have y76 : A.eval (.tmp 76) = _ := Eq.trans (hf 76) (by conv => lhs; simp [go_sem])
      have y77 : A.eval (.tmp 77) = _ := Eq.trans (hf 77) (by conv => lhs; simp [go_sem])
      have y78 : A.eval (.tmp 78) = _ := Eq.trans (hf 78) (by conv => lhs; simp [go_sem])
      have y79 : A.eval (.tmp 79) = _ := Eq.trans (hf 79) (by conv => lhs; simp [go_sem])
      have y80 : A.eval (.tmp 80) = _ := Eq.trans (hf 80) (by conv => lhs; simp [go_sem])
      have y81 : A.eval (.tmp 81) = _ := Eq.trans (hf 81) (by conv => lhs; simp [go_sem])
      have y82 : A.eval (.tmp 82) = _ := Eq.trans (hf 82) (by conv => lhs; simp [go_sem])
      have y83 : A.eval (.tmp 83) = _ := Eq.trans (hf 83) (by conv => lhs; simp [go_sem])
      have y84 : A.eval (.tmp 84) = _ := Eq.trans (hf 84) (by conv => lhs; simp [go_sem])
      have y85 : A.eval (.tmp 85) = _ := Eq.trans (hf 85) (by conv => lhs; simp [go_sem])
      have y86 : A.eval (.tmp 86) = _ := Eq.trans (hf 86) (by conv => lhs; simp [go_sem])
      have y87 : A.eval (.tmp 87) = _ := Eq.trans (hf 87) (by conv => lhs; simp [go_sem])
      have y88 : A.eval (.tmp 88) = _ := Eq.trans (hf 88) (by conv => lhs; simp [go_sem])
      have y89 : A.eval (.tmp 89) = _ := Eq.trans (hf 89) (by conv => lhs; simp [go_sem])
      have y90 : A.eval (.tmp 90) = _ := Eq.trans (hf 90) (by conv => lhs; simp [go_sem])
      have y91 : A.eval (.tmp 91) = _ := Eq.trans (hf 91) (by conv => lhs; simp [go_sem])
      have y92 : A.eval (.tmp 92) = _ := Eq.trans (hf 92) (by conv => lhs; simp [go_sem])
      have y93 : A.eval (.tmp 93) = _ := Eq.trans (hf 93) (by conv => lhs; simp [go_sem])
      have y94 : A.eval (.tmp 94) = _ := Eq.trans (hf 94) (by conv => lhs; simp [go_sem])
      have y95 : A.eval (.tmp 95) = _ := Eq.trans (hf 95) (by conv => lhs; simp [go_sem])
      have y96 : A.eval (.tmp 96) = _ := Eq.trans (hf 96) (by conv => lhs; simp [go_sem])
      have y97 : A.eval (.tmp 97) = _ := Eq.trans (hf 97) (by conv => lhs; simp [go_sem])
      have y98 : A.eval (.tmp 98) = _ := Eq.trans (hf 98) (by conv => lhs; simp [go_sem])
      have y99 : A.eval (.tmp 99) = _ := Eq.trans (hf 99) (by conv => lhs; simp [go_sem])
      clear hf
      have hA := frame_eq hn
      rw [show List.range 100 = [0, 1, 2, 3, 4, 5, 6, 7, 8, 9, 10, 11, 12, 13, 14, 15, 16, 17, 18, 19, 20, 21, 22, 23, 24, 25, 26, 27, 28, 29, 30, 31, 32, 33, 34, 35, 36, 37, 38, 39, 40, 41, 42, 43, 44, 45, 46, 47, 48, 49, 50, 51, 52, 53, 54, 55, 56, 57, 58, 59, 60, 61, 62, 63, 64, 65, 66, 67, 68, 69, 70, 71, 72, 73, 74, 75, 76, 77, 78, 79, 80, 81, 82, 83, 84, 85, 86, 87, 88, 89, 90, 91, 92, 93, 94, 95, 96, 97, 98, 99] from rfl, hd] at hA
      simp only [List.map_cons, List.map_nil, y0, y1, y2, y3, y4, y5, y6, y7, y8, y9, y10, y11, y12, y13, y14, y15, y16, y17, y18, y19, y20, y21, y22, y23, y24, y25, y26, y27, y28, y29, y30, y31, y32, y33, y34, y35, y36, y37, y38, y39, y40, y41, y42, y43, y44, y45, y46, y47, y48, y49, y50, y51, y52, y53, y54, y55, y56, y57, y58, y59, y60, y61, y62, y63, y64, y65, y66, y67, y68, y69, y70, y71, y72, y73, y74, y75, y76, y77, y78, y79, y80, y81, y82, y83, y84, y85, y86, y87, y88, y89, y90, y91, y92, y93, y94, y95, y96, y97, y98, y99] at hA
      clear y0 y1 y2 y3 y4 y5 y6 y7 y8 y9 y10 y11 y12 y13 y14 y15 y16 y17 y18 y19 y20 y21 y22 y23 y24 y25 y26 y27 y28 y29 y30 y31 y32 y33 y34 y35 y36 y37 y38 y39 y40 y41 y42 y43 y44 y45 y46 y47 y48 y49 y50 y51 y52 y53 y54 y55 y56 y57 y58 y59 y60 y61 y62 y63 y64 y65 y66 y67 y68 y69 y70 y71 y72 y73 y74 y75 y76 y77 y78 y79 y80 y81 y82 y83 y84 y85 y86 y87 y88 y89 y90 y91 y92 y93 y94 y95 y96 y97 y98 y99
      clear hn hd
      subst hA
      have hxf := HX.out.below hC
      have hqf : OwQS W4 V5.heap.size (.slice ao Yk.length co) (Yk.map Prod.fst) := gown_below HQ.out hC
      have hcf : Chg K w0 W4 := HC.out.trans (G := fun _ => False) (chg0 hC) (fun _ _ e => e.elim)
      clear hC kc6 hltf
      have hcs := cnt_le (s := s) k
      have hcs2 : cnt ((sdT s).take k) ≤ 1024 := Nat.le_trans hcs HWT.out
      have hmsl : M ++ List.replicate (sdT s).length 1 = ms := by rw [← hke]; exact HMS.out
      have hyo : Yk.map Prod.snd = sdT s := by rw [HYS.out, hke, List.take_of_length_le (Nat.le_refl _)]
      have hct : cnt ((sdT s).take k) = cnt (sdT s) := by rw [hke, List.take_of_length_le (Nat.le_refl _)]
      have HWF : Hid (OwO W4 0 (.slice aW s.W.length cW) s.W) := hxf.wt
      have hxq := hxf
      rw [hke] at hxq
      have hfin := fun (r : Value) (w14 : World) (hb14 : Below W4.heap.size W4 w14) (ho : OwO w14 W4.heap.size r (s.W.drop (cnt (sdT s)))) => xsend_fin (w0 := w0) (K := K) hxq HY.out HM.out hmsl hyo hqf (fun x hx => hx.1.imp (fun e => e) (fun e => e.1)) hcf HX0.out.fb hb14 ho
      obtain ⟨d0, d1, d2, d3, d4, d5, df⟩ := hxf.cells
      have HDF := Lib.hid (And.intro d2 df)
      have hbl := hxf.lt b hxf.fb
      rw [hct] at hcs hcs2
      have hcn0 := hct
      obtain ⟨n, hn⟩ : ∃ n, cnt (sdT s) = n := ⟨_, rfl⟩
      rw [hn] at hcs hcs2 hfin hct
      have HFIN := Lib.hid hfin
      try simp only [hct]
      clear hmsl hyo hct hxq hxf hqf hcf hke hn hcn0 hfin d0 d1 d3 d4 d5 HX HQ HC HCV HVO HVS HUS HMS HYL HLN HYS HROW HC5
      cases aW with
      | none =>
        have hw0 : s.W.length = 0 ∧ cW = 0 := by
          rcases HWF.out.2 with ⟨h1, h2⟩ | ⟨g', cap', cur, hv, _⟩
          · simp only [Value.slice.injEq] at h1
            exact ⟨h2, h1.2.2⟩
          · cases hv
        have hwn : s.W = [] := List.eq_nil_of_length_eq_zero hw0.1
        have hn0 : n = 0 := by omega
        have hc0 := hw0.2
        rw [hw0.1] at d2
        subst hn0
        subst hc0
        have CO := Lib.hid (own_any (.slice none 0 0) [] W4 (os_nil W4) (Nat.zero_le _))
        have HWN := Lib.hid hwn
        clear hw0 hwn
        go_wp2_with fail
        refine CO.out.mono ?_
        rintro e w14 ⟨r, rfl, ho, hb14⟩
        obtain ⟨ar, cr, rfl⟩ := own_form ho
        have hq14 := HFIN.out _ w14 hb14 (by rw [HWN.out]; exact ho)
        have HQ14 := Lib.hid hq14
        have e2 := (hb14.cell (p := ⟨b, 2, none⟩) hbl).trans HDF.out.1
        have ef : ∀ j, w14.frozen? ⟨b, j, none⟩ = false := fun j => (hb14.frozen (p := ⟨b, j, none⟩) hbl).trans (HDF.out.2 j)
        clear ho hb14 d2 df hq14
        go_wp2_with fail
        go_ret
        exact ⟨_, rfl, HQ14.out⟩
      | some ad =>
        obtain ⟨g, rfl⟩ := own_zero HWF.out
        obtain ⟨hcap, A0, hA, hot9⟩ := os_tail HWF.out hcs
        have hlen : (s.W.drop n).length = s.W.length - n := List.length_drop ..
        rw [← hlen] at hot9
        have CO := own_any (.slice (some A0) (s.W.drop n).length (cW - n)) (s.W.drop n) W4 hot9 (by rw [hlen]; have := HWT.out; omega)
        have HLEN := Lib.hid hlen
        rw [hlen] at CO
        have HCO := Lib.hid CO
        clear hot9 CO hlen
        go_wp2_with fail
        refine HCO.out.mono ?_
        rintro e w14 ⟨r, rfl, ho, hb14⟩
        have hq14 := HFIN.out _ w14 hb14 (by
          show w14.ownsRow _ _ _ _ (s.W.drop n).length _
          rw [HLEN.out]
          exact ho)
        obtain ⟨ar, cr, rfl⟩ := own_form ho
        have HQ14 := Lib.hid hq14
        have e2 := (hb14.cell (p := ⟨b, 2, none⟩) hbl).trans HDF.out.1
        have ef : ∀ j, w14.frozen? ⟨b, j, none⟩ = false := fun j => (hb14.frozen (p := ⟨b, j, none⟩) hbl).trans (HDF.out.2 j)
        clear ho hb14 d2 df hq14 HCO
        go_wp2_with fail
        go_ret
        exact ⟨_, rfl, HQ14.out⟩
end
end Go.Proofs.Yticjeknadddhoaa

namespace Go.Proofs.Yticjeknadddhoaa
set_option maxRecDepth 100000
set_option linter.unusedVariables false
open Go.RowKit

section
variable {w w' : World} {K : Nat → Prop} {b : Nat} {s : Sd}
theorem XS.lt (h : XS w K b s) : ∀ k, K k → k < w.heap.size := by
  obtain ⟨_, Y, M, vW, vO, vS, h, _⟩ := h
  exact h.lt
theorem XS.keep {G : Nat → Prop} (h : XS w K b s) (hc : Chg G w w') (hG : ∀ k, K k → ¬ G k) : XS w' K b s := by
  obtain ⟨h0, Y, M, vW, vO, vS, h, h1, h2⟩ := h
  exact ⟨h0, Y, M, vW, vO, vS, h.keep hc hG, h1, h2⟩
theorem xs_push (y : Ob) (h : XS w K b s) : Calls Try.prog 12 #[.pointer (some ⟨b, 0, none⟩), .agg #[.int .i64 y.k, .int .i64 y.x, .bool y.n, .int .i64 y.t, .int .i64 y.o, .int .i64 y.r, .int .i64 y.d, .int .i64 y.i, .int .i64 y.p, .int .i64 y.q, .int .i64 y.s, .int .i64 y.m]] w fun e w' => e = .returned (.int .i64 (pushR s y).1) ∧ Chg K w w' ∧ ∃ K', XS w' K' b (pushR s y).2 ∧ ∀ k, K' k → K k ∨ w.heap.size ≤ k := by
  obtain ⟨h0, Y, M, vW, vO, vS, h, h1, h2⟩ := h
  refine (xpush_any y h h0.wl).mono ?_
  rintro e w' ⟨he, hc, K', vW', hx, hs⟩
  have hl : (pushR s y).2.L = s.L := by
    by_cases hok : y.Ok
    · by_cases hf : 1024 ≤ s.W.length
      · rw [pushR_full hok hf]
      · rw [pushR_ok hok hf]
    · rw [pushR_no hok]
  exact ⟨he, hc, K', ⟨sdok_push h0 y, Y, M, vW', vO, vS, hx, by unfold Sd.out; rw [hl]; exact h1, by rw [hl]; exact h2⟩, hs⟩
theorem xs_send (h : XS w K b s) : Calls Try.prog 15 #[.pointer (some ⟨b, 0, none⟩)] w fun e w' => ∃ r, e = .returned r ∧ Bts w' r (sdT s) ∧ Chg K w w' ∧ ∃ K', XS w' K' b (sdS s) ∧ ∀ k, K' k → K k ∨ w.heap.size ≤ k := by
  obtain ⟨h0, Y, M, vW, vO, vS, h, h1, h2⟩ := h
  refine (xsend_any h h1 h2 h0).mono ?_
  rintro e w' ⟨r, he, hb, hc, K', Y', vW', vO', vS', hx, ho, hs⟩
  exact ⟨r, he, hb, hc, K', ⟨sdok_send h0, Y', _, vW', vO', vS', hx, ho, rfl⟩, hs⟩
theorem xs_again (h : XS w K b s) : Calls Try.prog 17 #[.pointer (some ⟨b, 0, none⟩)] w fun e w' => ∃ r, e = .returned (.tuple #[r, .bool (agB s)]) ∧ Bts w' r (agL s) ∧ Chg K w w' ∧ ∃ K', XS w' K' b (agS s) ∧ ∀ k, K' k → K k ∨ w.heap.size ≤ k := by
  obtain ⟨h0, Y, M, vW, vO, vS, h, h1, h2⟩ := h
  refine (xagain_any h h1 h2 h0).mono ?_
  rintro e w' ⟨r, he, hc, ⟨hx, ho⟩, hb⟩
  exact ⟨r, he, hb, hc, K, ⟨sdok_again h0, Y, _, vW, vO, vS, hx, ho, rfl⟩, fun k hk => .inl hk⟩
theorem xs_got (a : Ak) (h : XS w K b s) : Calls Try.prog 19 #[.pointer (some ⟨b, 0, none⟩), .agg #[.int .i64 a.1, .int .i64 a.2.1, .int .i64 a.2.2.1, .int .i64 a.2.2.2]] w fun e w' => e = .returned (.int .i64 (gtN s a)) ∧ Chg K w w' ∧ ∃ K', XS w' K' b (gtS s a) ∧ ∀ k, K' k → K k ∨ w.heap.size ≤ k := by
  obtain ⟨h0, Y, M, vW, vO, vS, h, h1, h2⟩ := h
  refine (xgot_any a.1 a.2.1 a.2.2.1 a.2.2.2 h h1 h2 h0).mono ?_
  rintro e w' ⟨he, hc, K', Y', vO', vS', hx, ho, hs⟩
  exact ⟨he, hc, K', ⟨sdok_got h0 a, Y', _, vW, vO', vS', hx, ho, rfl⟩, hs⟩
/-- What waits and what is out, as they lie there. -/
theorem XS.reads (h : XS w K b s) : ∃ aW cW aO nO cO, w.cell? ⟨b, 2, none⟩ = some (.slice aW s.W.length cW) ∧ w.cell? ⟨b, 3, none⟩ = some (.slice aO nO cO) ∧ Os w (.slice aW s.W.length cW) s.W ∧ Bts w (.slice aO nO cO) s.out ∧ b < w.heap.size := by
  obtain ⟨h0, Y, M, vW, vO, vS, h, h1, h2⟩ := h
  obtain ⟨aW, cW, rfl⟩ := h.wform
  obtain ⟨aO, cO, rfl⟩ := h.oform
  obtain ⟨c0, c1, c2, c3, c4, c5, cf⟩ := h.cells
  exact ⟨aW, cW, aO, Y.length, cO, c2, c3, h.wt.os, by rw [h1]; exact h.bts, h.lt b h.fb⟩
theorem xs_new (win tries : Int) (hn : nwOk win tries) (w : World) : XS (w.alloc (.cells #[.int .i64 win, .int .i64 tries, .slice none 0 0, .slice none 0 0, .slice none 0 0, .int .i64 0] 33)) (fun k => k = w.heap.size) w.heap.size (sd0 win tries) :=
  ⟨sdok_new hn, [], [], .slice none 0 0, .slice none 0 0, .slice none 0 0, ⟨fun k hk => by simp; omega, rfl, heap_alloc_new w _, OwO_nil _ 0, fun g hg => (by cases hg), ⟨rfl, .inl ⟨rfl, rfl⟩⟩, fun g hg => (by cases hg), ⟨rfl, .inl ⟨rfl, rfl⟩⟩, fun g hg => (by cases hg), fun y hy => absurd hy List.not_mem_nil⟩, rfl, rfl⟩
theorem ps_wait {F : Nat → Prop} (h : PS w F b s) : Calls Try.prog 21 #[.pointer (some ⟨b, 0, none⟩)] w fun e w' => (∃ a c, e = .returned (.slice a s.W.length c) ∧ Os w' (.slice a s.W.length c) s.W) ∧ Below w.heap.size w w' := by
  obtain ⟨h0, Z, vW, vO, h⟩ := h
  refine (pwait_any h (Nat.le_trans h0.wl (by decide))).mono ?_
  rintro e w' ⟨⟨a, c, h1, h2⟩, h3⟩
  exact ⟨⟨a, c, h1, h2.os⟩, h3⟩
theorem ps_out {F : Nat → Prop} (h : PS w F b s) : Calls Try.prog 22 #[.pointer (some ⟨b, 0, none⟩)] w fun e w' => (∃ a c, e = .returned (.slice a s.out.length c) ∧ Bts w' (.slice a s.out.length c) s.out) ∧ Below w.heap.size w w' := by
  obtain ⟨h0, Z, vW, vO, h⟩ := h
  refine (pout_any h h0).mono ?_
  rintro e w' ⟨⟨a, c, h1, h2⟩, h3⟩
  exact ⟨⟨a, c, h1, (rowb_btso h2 (G := fun _ => False) (fun _ h => h.elim)).bts⟩, h3⟩
theorem bsame_yes (v u : Value) (xs : List Bt) (w : World) (hx : Bts w v xs) (hz : Bts w u xs) (hl : xs.length ≤ 3000) (hin : ∀ p ∈ xs, p.2.length ≤ 3000) : Calls Try.prog 13 #[v, u] w fun e w' => e = .returned (.bool true) ∧ Below w.heap.size w w' := by
  refine (bsame_any v u xs xs w hx hz hl (fun i hi => hin _ (getD_mem hi))).mono ?_
  rintro e w' ⟨⟨q, he, hq⟩, hb⟩
  have : q = true := hq.2 rfl
  subst this
  exact ⟨he, hb⟩
theorem osame_yes (v u : Value) (ys : List Ob) (w : World) (hx : Os w v ys) (hz : Os w u ys) (hl : ys.length ≤ 3000) : Calls Try.prog 20 #[v, u] w fun e w' => e = .returned (.bool true) ∧ Below w.heap.size w w' := same_fix v u ys ys true ⟨fun _ => rfl, fun _ => rfl⟩ w hx hz hl
theorem sdok_small (h : SdOk s) : s.W.length ≤ 3000 ∧ s.out.length ≤ 3000 ∧ (∀ p ∈ s.out, p.2.length ≤ 3000) ∧ (sdT s).length ≤ 3000 ∧ (∀ p ∈ sdT s, p.2.length ≤ 3000) := by
  have h1 := out_le h
  have h2 := h.win
  have h3 := (sdT_top h).2
  have h4 := far_bd (fstN s) s.nx
  refine ⟨Nat.le_trans h.wl (by decide), by omega, fun p hp => ?_, by omega, fun p hp => ?_⟩
  · unfold Sd.out at hp
    obtain ⟨e, he, rfl⟩ := List.mem_map.1 hp
    exact btok_len (h.bok e he)
  · obtain ⟨i, hi, rfl⟩ := List.mem_iff_getElem.1 hp
    have h5 := (stk_len h hi).1
    have e : (sdT s).getD i zb = (sdT s)[i] := by simp [List.getD, hi]
    rw [e] at h5
    exact btok_len h5
end
/-- Both, apart, made since w0. -/
structure TwoS (w0 w : World) (F K : Nat → Prop) (b bx : Nat) (s t : Sd) : Prop where
  ps : PS w F b s
  xs : XS w K bx t
  fk : ∀ k, F k → ¬ K k
  fn : ∀ k, F k → w0.heap.size ≤ k
  kn : ∀ k, K k → w0.heap.size ≤ k
  bel : Below w0.heap.size w0 w
section
variable {w0 w w' : World} {F F' K K' : Nat → Prop} {b bx : Nat} {s s' t t' : Sd}
theorem TwoS.p (h : TwoS w0 w F K b bx s t) (hc : Chg F w w') (hp : PS w' F' b s') (hF : ∀ k, F' k → F k ∨ w.heap.size ≤ k) : TwoS w0 w' F' K b bx s' t :=
  ⟨hp, h.xs.keep hc (fun k hk hf => h.fk k hf hk), fun k hk hk2 => (hF k hk).elim (fun g => h.fk k g hk2) (fun g => by have := h.xs.lt k hk2; omega), fun k hk => (hF k hk).elim (h.fn k) (fun g => Nat.le_trans h.bel.size g), h.kn, h.bel.trans (hc.below h.bel.size h.fn)⟩
theorem TwoS.x (h : TwoS w0 w F K b bx s t) (hc : Chg K w w') (hx : XS w' K' bx t') (hK : ∀ k, K' k → K k ∨ w.heap.size ≤ k) : TwoS w0 w' F K' b bx s t' :=
  ⟨dc.keep h.ps hc (fun k hk hk2 => h.fk k hk hk2), hx, fun k hk hk2 => (hK k hk2).elim (fun g => h.fk k hk g) (fun g => by have := dc.lt h.ps k hk; omega), h.fn, fun k hk => (hK k hk).elim (h.kn k) (fun g => Nat.le_trans h.bel.size g), h.bel.trans (hc.below h.bel.size h.kn)⟩
theorem TwoS.below (_dc : Dc PS) (h : TwoS w0 w F K b bx s t) (hb : Below w.heap.size w w') : TwoS w0 w' F K b bx s t :=
  ⟨dc.keep h.ps (G := fun _ => False) (chg0 hb) (fun _ _ g => g), h.xs.keep (G := fun _ => False) (chg0 hb) (fun _ _ g => g), h.fk, h.fn, h.kn, h.bel.trans (hb.mono h.bel.size)⟩
theorem TwoS.dr (h : TwoS w0 w F K b bx s t) : TwoS w0 w.drew F K b bx s t := h.below dc ⟨rfl, rfl, rfl, Nat.le_refl _, fun _ _ => rfl⟩
end
/-- A call of a script in a block of its own, which is none of theirs. -/
structure OpB (w : World) (F K : Nat → Prop) (g : Nat) (c : Int) (y : Ob) (a : Ak) : Prop where
  hp : w.heap[g]? = some (.cells #[.int .i64 c, .int .i64 y.k, .int .i64 y.x, .bool y.n, .int .i64 y.t, .int .i64 y.o, .int .i64 y.r, .int .i64 y.d, .int .i64 y.i, .int .i64 y.p, .int .i64 y.q, .int .i64 y.s, .int .i64 y.m, .int .i64 a.1, .int .i64 a.2.1, .int .i64 a.2.2.1, .int .i64 a.2.2.2] 44)
  nf : ¬ F g
  nk : ¬ K g
section
variable {w w' : World} {F F' K K' : Nat → Prop} {g : Nat} {c : Int} {y : Ob} {a : Ak}
theorem OpB.p (h : OpB w F K g c y a) (hc : Chg F w w') (hF : ∀ k, F' k → F k ∨ w.heap.size ≤ k) : OpB w' F' K g c y a :=
  ⟨(hc.block g (some_lt h.hp) h.nf).trans h.hp, fun hf => (hF g hf).elim h.nf (fun e => by have := some_lt h.hp; omega), h.nk⟩
theorem OpB.x (h : OpB w F K g c y a) (hc : Chg K w w') (hK : ∀ k, K' k → K k ∨ w.heap.size ≤ k) : OpB w' F K' g c y a :=
  ⟨(hc.block g (some_lt h.hp) h.nk).trans h.hp, h.nf, fun hk => (hK g hk).elim h.nk (fun e => by have := some_lt h.hp; omega)⟩
theorem OpB.dr (h : OpB w F K g c y a) : OpB w.drew F K g c y a := ⟨h.hp, h.nf, h.nk⟩
theorem OpB.ob (h : OpB w F K g c y a) : w.cell? ⟨g, 1, none⟩ = some (.int .i64 y.k) ∧ w.cell? ⟨g, 2, none⟩ = some (.int .i64 y.x) ∧ w.cell? ⟨g, 3, none⟩ = some (.bool y.n) ∧ w.cell? ⟨g, 4, none⟩ = some (.int .i64 y.t) ∧ w.cell? ⟨g, 5, none⟩ = some (.int .i64 y.o) ∧ w.cell? ⟨g, 6, none⟩ = some (.int .i64 y.r) ∧ w.cell? ⟨g, 7, none⟩ = some (.int .i64 y.d) ∧ w.cell? ⟨g, 8, none⟩ = some (.int .i64 y.i) ∧ w.cell? ⟨g, 9, none⟩ = some (.int .i64 y.p) ∧ w.cell? ⟨g, 10, none⟩ = some (.int .i64 y.q) ∧ w.cell? ⟨g, 11, none⟩ = some (.int .i64 y.s) ∧ w.cell? ⟨g, 12, none⟩ = some (.int .i64 y.m) := by
  have h' := h.hp
  refine ⟨?_, ?_, ?_, ?_, ?_, ?_, ?_, ?_, ?_, ?_, ?_, ?_⟩ <;> simp [World.cell?, h']
theorem OpB.ak (h : OpB w F K g c y a) : w.cell? ⟨g, 13, none⟩ = some (.int .i64 a.1) ∧ w.cell? ⟨g, 14, none⟩ = some (.int .i64 a.2.1) ∧ w.cell? ⟨g, 15, none⟩ = some (.int .i64 a.2.2.1) ∧ w.cell? ⟨g, 16, none⟩ = some (.int .i64 a.2.2.2) := by
  have h' := h.hp
  refine ⟨?_, ?_, ?_, ?_⟩ <;> simp [World.cell?, h']
end
def TOs (l : List Ob) : Ty := fun v w => Os w v l
theorem TOs.keeps (l : List Ob) : ∀ v w w', TOs l v w → Below w.heap.size w w' → TOs l v w' := fun _ _ _ h hb => h.below hb
def TBs (l : List Bt) : Ty := fun v w => Bts w v l
theorem bts_below {w w' : World} {v : Value} {l : List Bt} (h : Bts w v l) (hb : Below w.heap.size w w') : Bts w' v l := by
  rcases h with h | ⟨b, off, cap, h1, h2⟩
  · exact .inl h
  · refine .inr ⟨b, off, cap, h1, fun i hi => ?_⟩
    obtain ⟨h3, u, h4, h5⟩ := h2 i hi
    have hl := World.block_lt_of_cell? w _ h3
    exact ⟨(hb.cell (p := ⟨b, off + i * 2, none⟩) hl).trans h3, u, (hb.cell (p := ⟨b, off + i * 2 + 1, none⟩) hl).trans h4, h5.below hb⟩
theorem TBs.keeps (l : List Bt) : ∀ v w w', TBs l v w → Below w.heap.size w w' → TBs l v w' := fun _ _ _ h hb => bts_below h hb
end Go.Proofs.Yticjeknadddhoaa
