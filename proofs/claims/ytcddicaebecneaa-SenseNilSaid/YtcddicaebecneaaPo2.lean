/- The program's sensor in memory; a copy of what it remembers, with the time (since). No conditions. -/
import Derived.Test.YtcddicaebecneaaPo1
import Derived.Test.YtcddicaebecneaaSn8
import Derived.Laws.ResultCell
namespace Go.Proofs.Ytcddicaebecneaa
set_option maxRecDepth 100000
open Go.RowKit

/-- A sensor of the program's at block b, which remembers what lies at block m. -/
structure PAt (w : World) (b m : Nat) (s : Sn) : Prop where
  ne : b ≠ m
  c0 : w.cell? ⟨b, 0, none⟩ = some (.int .i64 s.id)
  c1 : w.cell? ⟨b, 1, none⟩ = some (.int .i64 s.ep)
  c2 : w.cell? ⟨b, 2, none⟩ = some (.int .i64 s.hold)
  c3 : w.cell? ⟨b, 3, none⟩ = some (.pointer (some ⟨m, 0, none⟩))
  fz : ∀ k, w.frozen? ⟨b, k, none⟩ = false
  mem : Mem w m s.now s.L
  ok : SnOk s
def PS (w : World) (F : Nat → Prop) (b : Nat) (s : Sn) : Prop := ∃ m, PAt w b m s ∧ ∀ k, F k ↔ (k = b ∨ k = m)
theorem PAt.lt {w : World} {b m : Nat} {s : Sn} (h : PAt w b m s) : b < w.heap.size := World.block_lt_of_cell? w _ h.c0
theorem PAt.low {w w' : World} {b m : Nat} {s : Sn} (h : PAt w b m s) (e1 : w'.heap[b]? = w.heap[b]?) (e2 : w'.heap[m]? = w.heap[m]?) : PAt w' b m s where
  ne := h.ne
  c0 := (World.cell?_of_block e1).trans h.c0
  c1 := (World.cell?_of_block e1).trans h.c1
  c2 := (World.cell?_of_block e1).trans h.c2
  c3 := (World.cell?_of_block e1).trans h.c3
  fz := fun k => by
    have := h.fz k
    simp only [World.frozen?, e1] at this ⊢
    exact this
  mem := h.mem.low e2
  ok := h.ok
theorem PAt.keep {B : Nat} {w w' : World} {b m : Nat} {s : Sn} (h : PAt w b m s) (hb : Below B w w') (h1 : b < B) (h2 : m < B) : PAt w' b m s := h.low (hb.block b h1) (hb.block m h2)
theorem PAt.below {w w' : World} {b m : Nat} {s : Sn} (h : PAt w b m s) (hb : Below w.heap.size w w') : PAt w' b m s := h.keep hb h.lt h.mem.lt
theorem PAt.chg {F : Nat → Prop} {w w' : World} {b m : Nat} {s : Sn} (h : PAt w b m s) (hc : Chg F w w') (h1 : ¬ F b) (h2 : ¬ F m) : PAt w' b m s := h.low (hc.block b h.lt h1) (hc.block m h.mem.lt h2)
def sinN (s : Sn) (now : Int) : Int := if tmB s now = true then now else 0
def sinL (s : Sn) (now : Int) : List Hd := if tmB s now = true then s.L else List.replicate 64 zHd
theorem wp_load_mem {o : Oper} {a : Act} {w : World} {K : Act → World → Prop} {Q : Exit → Act → World → Prop} (x : Operand) (ho : o.op = .load 73 x) {m : Nat} (hx : a.eval x = .pointer (some ⟨m, 0, none⟩)) {now : Int} {L : List Hd} (hm : Mem w m now L)
    (h : K (a.put o.dst (.agg (mcs now L))) w) : o.wp Try.prog a w K Q := by
  obtain ⟨fs, hu⟩ := underTM
  exact wp_load_row 73 x ho m hx 73 _ (0, 0) _ hm.1 hu rfl (by rw [mcs_size hm.2]; exact infoTM) h
theorem tm_false {s : Sn} {now : Int} (h : tmB s now = false) : now < s.now ∨ 1000000000000 < now := by
  unfold tmB at h
  rw [Bool.and_eq_false_iff, decide_eq_false_iff_not, decide_eq_false_iff_not] at h
  omega
set_option maxHeartbeats 8000000 in
theorem since_any (b m : Nat) (s : Sn) (now : Int) (w : World) (h : PAt w b m s) :
    Calls Try.prog 29 #[.pointer (some ⟨b, 0, none⟩), .int .i64 now] w fun e w' => e = .returned (.tuple #[.agg (mcs (sinN s now) (sinL s now)), .bool (tmB s now)]) ∧ Below w.heap.size w w' := by
  obtain ⟨Z, hZ⟩ : ∃ Z, mcs 0 (List.replicate 64 zHd) = Z := ⟨_, rfl⟩
  have hz := zeroTM
  have hZs : Z.size = 257 := by rw [← hZ]; exact mcs_size List.length_replicate 0
  have hz1 : Mem (w.alloc (.cells Z 73)) w.heap.size 0 (List.replicate 64 zHd) := hZ ▸ mem_new w 0 List.length_replicate
  rw [hZ] at hz
  obtain ⟨W1, hW1⟩ : ∃ W1, w.alloc (.cells Z 73) = W1 := ⟨_, rfl⟩
  obtain ⟨g0, hg0⟩ : ∃ g0, w.heap.size = g0 := ⟨_, rfl⟩
  have hb1 : Below w.heap.size w W1 := hW1 ▸ (Below.refl _ w).alloc (Nat.le_refl _) _
  have h1 := h.below hb1
  have L1 := mload b 3 ⟨m, 0, none⟩ W1 h1.c3 h1.mem.pt
  have hZm : Mem (W1.alloc (.cells Z 73)) W1.heap.size 0 (List.replicate 64 zHd) := by rw [← hZ]; exact mem_new W1 0 List.length_replicate
  have hst := storeC_mem hZm s.now h.mem.2
  have hm2 := mem_row hZm s.now h.mem.2
  have hlt01 : g0 < W1.heap.size := by rw [← hg0, ← hW1]; simp
  rw [hW1, hg0] at hz1
  have hz2 : Mem ((W1.alloc (.cells Z 73)).setRow W1.heap.size (mcs s.now s.L)) g0 0 (List.replicate 64 zHd) := (hz1.alloc (.cells Z 73)).low (setRow_other _ W1.heap.size g0 _ (by omega))
  have hb2 : Below g0 w ((W1.alloc (.cells Z 73)).setRow W1.heap.size (mcs s.now s.L)) := hg0 ▸ below_setRow (hb1.alloc hb1.size _) (by omega) _
  obtain ⟨W2, hW2⟩ : ∃ W2, (W1.alloc (.cells Z 73)).setRow W1.heap.size (mcs s.now s.L) = W2 := ⟨_, rfl⟩
  rw [hW2] at hst hm2 hz2 hb2
  have hcs := mcs_size h.mem.2 s.now
  have HM2 := Lib.hid hm2
  have HM1 := Lib.hid h1.mem
  have HB2 := Lib.hid hb2
  have HW1 := Lib.hid hW1
  have HG0 := Lib.hid hg0
  have HOK := Lib.hid h.mem.2
  have e0 := hm2.c0 
  have e0f := hm2.fz 0
  obtain ⟨c0, c1, c2, c3⟩ := And.intro h.c0 (And.intro h.c1 (And.intro h.c2 h.c3))
  have HST3 : tmB s now = true → Hid (∃ W3 W4, W2.setCell ⟨W1.heap.size, 0, none⟩ (.int .i64 now) = W3 ∧ Mem W3 W1.heap.size now s.L ∧ (storeCells ⟨g0, 0, none⟩ (mcs now s.L).toList).run Try.prog W3 = .ok () W4 ∧ Mem W4 g0 now s.L ∧ Below g0 w W4) := fun _ => by
    have k1 := hm2.setNow now
    have k0 := hz2.off (b := W1.heap.size) (k := 0) (by omega) (.int .i64 now)
    have kb := hb2.setCell (p := ⟨W1.heap.size, 0, none⟩) (by show g0 ≤ W1.heap.size; omega) (.int .i64 now)
    exact ⟨_, _, rfl, k1, storeC_mem k0 now h.mem.2, mem_row k0 now h.mem.2, below_setRow kb (Nat.le_refl _) _⟩
  have HST0 : Hid (∃ W4, (storeCells ⟨g0, 0, none⟩ Z.toList).run Try.prog W2 = .ok () W4 ∧ Mem W4 g0 0 (List.replicate 64 zHd) ∧ Below g0 w W4) := by
    have k := storeC_mem hz2 0 (L := List.replicate 64 zHd) List.length_replicate
    rw [hZ] at k
    exact ⟨_, k, hZ ▸ mem_row hz2 0 List.length_replicate, below_setRow hb2 (Nat.le_refl _) _⟩
  have HZ := Lib.hid hZ
  clear h hZ hW1 hZm hm2 hz1 hz2 hb1 hb2 hW2 h1 hg0
  cases ht : tmB s now with
  | false =>
    have e1 : sinN s now = 0 := by unfold sinN; rw [ht]; rfl
    have e2 : sinL s now = List.replicate 64 zHd := by unfold sinL; rw [ht]; rfl
    rw [e1, e2]
    obtain ⟨W4, hst0, hm4, hb4⟩ := HST0.out
    have HM4 := Lib.hid hm4
    have HB4 := Lib.hid hb4
    clear HST0 HST3 hm4 hb4 e1 e2
    rcases tm_false ht with g1t | g2t
    · clear ht
      go_enter Try.func29, Try.ntmps29
      go_upto_region 1 with (fail)
      rw [HW1.out]
      simp only [HG0.out]
      go_wp2_with fail
      refine L1.mono ?_
      rintro e w1 ⟨rfl, rfl⟩
      go_wp2_with fail
      refine wp_load_mem _ rfl rfl HM1.out ?_
      go_wp2_with fail
      refine bodyPost_ret (v := .tuple #[.agg (mcs 0 (List.replicate 64 zHd)), .bool false]) ?_ rfl ⟨rfl, HG0.out ▸ HB4.out⟩
      rw [results_cell_tmp rfl]
      simp [asAddr, Result.andThen, load_mem HM4.out]
    · clear ht
      by_cases g1t : now < s.now
      · skip
        go_enter Try.func29, Try.ntmps29
        go_upto_region 1 with (fail)
        rw [HW1.out]
        simp only [HG0.out]
        go_wp2_with fail
        refine L1.mono ?_
        rintro e w1 ⟨rfl, rfl⟩
        go_wp2_with fail
        refine wp_load_mem _ rfl rfl HM1.out ?_
        go_wp2_with fail
        refine bodyPost_ret (v := .tuple #[.agg (mcs 0 (List.replicate 64 zHd)), .bool false]) ?_ rfl ⟨rfl, HG0.out ▸ HB4.out⟩
        rw [results_cell_tmp rfl]
        simp [asAddr, Result.andThen, load_mem HM4.out]
      · skip
        go_enter Try.func29, Try.ntmps29
        go_upto_region 1 with (fail)
        rw [HW1.out]
        simp only [HG0.out]
        go_wp2_with fail
        refine L1.mono ?_
        rintro e w1 ⟨rfl, rfl⟩
        go_wp2_with fail
        refine wp_load_mem _ rfl rfl HM1.out ?_
        go_wp2_with fail
        refine bodyPost_ret (v := .tuple #[.agg (mcs 0 (List.replicate 64 zHd)), .bool false]) ?_ rfl ⟨rfl, HG0.out ▸ HB4.out⟩
        rw [results_cell_tmp rfl]
        simp [asAddr, Result.andThen, load_mem HM4.out]
  | true =>
    have e1 : sinN s now = now := by unfold sinN; rw [ht]; rfl
    have e2 : sinL s now = s.L := by unfold sinL; rw [ht]; rfl
    rw [e1, e2]
    obtain ⟨W3, W4, hw3, hm3, hst4, hm4, hb4⟩ := (HST3 ht).out
    have hcs3 := mcs_size hm3.2 now
    have HM3 := Lib.hid hm3
    have HM4 := Lib.hid hm4
    have HB4 := Lib.hid hb4
    have HW3 := Lib.hid hw3
    obtain ⟨t1, t2⟩ := tm_le ht
    have t1' : ¬ now < s.now := by omega
    have t2' : ¬ 1000000000000 < now := by omega
    clear HST0 HST3 hm3 hm4 hb4 e1 e2 ht t1 t2 hw3
    go_enter Try.func29, Try.ntmps29
    go_upto_region 1 with (fail)
    rw [HW1.out]
    simp only [HG0.out]
    go_wp2_with fail
    refine L1.mono ?_
    rintro e w1 ⟨rfl, rfl⟩
    go_wp2_with fail
    refine wp_load_mem _ rfl rfl HM1.out ?_
    go_wp2_with fail
    refine wp_load_mem _ rfl rfl (HW3.out ▸ HM3.out) ?_
    rw [HW3.out]
    go_wp2_with fail
    refine bodyPost_ret (v := .tuple #[.agg (mcs now s.L), .bool true]) ?_ rfl ⟨rfl, HG0.out ▸ HB4.out⟩
    rw [results_cell_tmp rfl]
    simp [asAddr, Result.andThen, load_mem HM4.out]
end Go.Proofs.Ytcddicaebecneaa
