/- One form for each answer, the program's and the document's; the document's example. No conditions but on lengths. slices.Delete of the first objects of a row of one's own; the cells behind a row of one's own, cleared. No conditions but on lengths. The program's letOut: a batch is out, sent once; its objects wait no more. No conditions but on lengths. What a sender is while it sends: batch by batch; which ones are near enough. No conditions. The program's Again. No conditions. Which ones an ack has; slices.IndexFunc, slices.DeleteFunc of pointers by what a closure tells. No conditions but on lengths. slices.DeleteFunc of pointers by what a closure tells. No conditions but on lengths. The program's Got. No conditions. The program's Send. No conditions. The program's sender answers as the document says, over what it keeps. No conditions. A sender and a taker: what is told is the beginning of what was pushed; what the sender lets go was told, or is held. No conditions. A sender and a taker: a batch that comes; an ack that is told; when all that is out comes, and is told back, all is told. No conditions. A sender and a taker in one world, with a row of what was pushed and one of what was told. No conditions but on lengths. Rows of steps as arguments; rows of acks of one's own. No conditions but on lengths. A play of a sender and a taker, with what was sent and acked some time. No conditions. -/
import Derived.Test.YtfiaghfaijlfjaaGreatAm
import Derived.Test.YtfiaghfaijlfjaaGreatAkt
import Derived.Test.YtfiaghfaijlfjaaGreatTyp2
import Derived.Test.YtfiaghfaijlfjaaGreatByt
import Derived.Test.YtfiaghfaijlfjaaGreatRint
import Derived.Test.YtfiaghfaijlfjaaGreatRead
import Derived.Test.YtfiaghfaijlfjaaGreatBes
import Derived.Test.YtfiaghfaijlfjaaGreatOpp
import Derived.Test.YtfiaghfaijlfjaaGreatGsp
import Derived.Test.YtfiaghfaijlfjaaGreatRdr
import Derived.Test.YtfiaghfaijlfjaaGreatOpd
import Derived.Test.YtfiaghfaijlfjaaGreatPsd
import Derived.Test.YtfiaghfaijlfjaaGreatOrw
import Derived.Test.YtfiaghfaijlfjaaGreatOpk
import Derived.Test.YtfiaghfaijlfjaaGreatBm
import Derived.Test.YtfiaghfaijlfjaaGreatZin
import Derived.Test.YtfiaghfaijlfjaaGreatTyp4
import Derived.Test.YtfiaghfaijlfjaaGreatPm
import Derived.Test.YtfiaghfaijlfjaaGreatKm
import Derived.Test.YtfiaghfaijlfjaaGreatPc
import Derived.Shelf.RegionOpenPlain
import Derived.Deep.RegionLaw
import Derived.Lib.SliceRun
import Derived.Deep.RegionWith
import Derived.LoopTactic
namespace Go.Proofs.YtfiaghfaijlfjaaGreat
set_option maxRecDepth 100000
open Go.RowKit

theorem has_fix (i p x m n : Int) (w : World) :
    Calls Tryz.prog 48 #[.agg #[.int .i64 i, .int .i64 p, .int .i64 x, .int .i64 m], .int .i64 n] w fun e w' => e = .returned (.bool (decide (AkOne (i, p, x, m)) && hasN x m n)) ∧ Below w.heap.size w w' :=
  akhas_fix i p x m n _ decide_eq_true_iff w
end Go.Proofs.YtfiaghfaijlfjaaGreat

namespace Go.Proofs.YtfiaghfaijlfjaaGreat
set_option maxRecDepth 100000
set_option linter.unusedVariables false
open Go.RowKit

theorem step_app {ops : Array Oper} {o : Oper} {a : Act} {W : World} {K : Act → World → Prop} {Q : Exit → Act → World → Prop} {E : Prop} (hg : o.guard = none) (s x : Operand) (T : TypeId)
    (ho : o.op = .call { callee := .builtin .append, args := #[s, x], argTypes := #[T, T] }) {v u r : Value} {w' : World} (hs : a.eval s = v) (hx : a.eval x = u) (hr : (Builtin.append_ #[T, T] o.type #[v, u]).run Tryz.prog W = .ok r w') (hK : K (a.put o.dst r) w') :
    if Region.wanted o (yielded ops a.tmps) = true then Oper.wp Tryz.prog o a W K Q else E := by
  have hw : Region.wanted o (yielded ops a.tmps) = true := by simp [Region.wanted, hg]
  rw [if_pos hw]
  unfold Oper.wp
  rw [gexec_append ho hs hx hr]
  exact hK
theorem own_head {w : World} {S size n m g cap : Nat} {e : TypeId} {xs : List Value} (h : w.ownsRow S e size (.slice (some ⟨g, 0, none⟩) n cap) n xs) (hm : m ≤ n) : w.ownsRow S e size (.slice (some ⟨g, 0, none⟩) m cap) m (xs.take (m * size)) := by
  have hx := h.1
  have hms : m * size ≤ n * size := Nat.mul_le_mul_right _ hm
  refine ⟨by rw [List.length_take]; omega, ?_⟩
  rcases h.2 with ⟨h1, _⟩ | ⟨g', cap', cur, hv, hb, hg, hnc, hcm, hcs, htake⟩
  · cases h1
  · simp only [Value.slice.injEq, Option.some.injEq, Addr.mk.injEq, and_true, true_and] at hv
    obtain ⟨rfl, rfl⟩ := hv
    refine .inr ⟨g, cap, cur, rfl, hb, hg, by omega, hcm, hcs, ?_⟩
    rw [← htake, List.take_take, Nat.min_eq_left hms]
theorem cells_agg (z : Value) (n : Nat) (hz : ∀ u ∈ z.cells, u.oneCell' = true) : ∀ u ∈ (Builtin.zeroCells z.cells n).toList, u.oneCell' = true := by
  intro u hu
  rw [Array.mem_toList_iff, Builtin.zeroCells, Array.mem_map] at hu
  obtain ⟨i, hi, rfl⟩ := hu
  rw [Array.mem_range] at hi
  have h0 : 0 < z.cells.size := by
    rcases Nat.eq_zero_or_pos z.cells.size with h | h
    · rw [h] at hi; omega
    · exact h
  rw [getElem!_pos z.cells (i % z.cells.size) (Nat.mod_lt _ h0)]
  exact hz _ (Array.getElem_mem _)
/-- The cells behind the first n are cleared. -/
theorem run_clear_own (R : RowT) (hzo : ∀ u ∈ R.zero.cells, u.oneCell' = true) (w : World) (ty : TypeId) (S g n m cap c : Nat) (xs : List Value) (h : w.ownsRow S R.T R.K (.slice (some ⟨g, 0, none⟩) n cap) n xs) (hm : 0 < m) (hroom : n + m ≤ cap) :
    ∃ w', (Builtin.clear_ #[R.SL] ty #[.slice (some ⟨g, n * R.K, none⟩) m c]).run Tryz.prog w = .ok (.tuple #[]) w' ∧ w'.ownsRow S R.T R.K (.slice (some ⟨g, 0, none⟩) n cap) n xs ∧ w.grownBy w' (some g) := by
  obtain ⟨i0, hi, hz0, hz1, hz2⟩ := info_parts R.hinfo
  have hx := h.1
  rcases h.2 with ⟨h1, _⟩ | ⟨g', cap', cur, hv, hb, hg, hnc, hcm, hcs, htake⟩
  · cases h1
  · simp only [Value.slice.injEq, Option.some.injEq, Addr.mk.injEq, and_true, true_and] at hv
    obtain ⟨rfl, rfl⟩ := hv
    have hlen : (Builtin.zeroCells R.zero.cells m).toList.length = m * R.K := by rw [Array.length_toList, size_zeroCells, R.hz]
    have hfit : n * R.K + m * R.K ≤ cur.size := by rw [hcs, ← Nat.add_mul]; exact Nat.mul_le_mul_right _ hroom
    have hst := run_storeCells_at Tryz.prog g (n * R.K) R.T (Builtin.zeroCells R.zero.cells m).toList 0 cur w hg (by rw [hlen, Nat.add_zero]; exact hfit) (cells_agg R.zero m hzo)
    simp only [Nat.add_zero] at hst
    have hzv : ∀ w, (zeroValue R.T).run Tryz.prog w = .ok R.zero w := fun w => by simp [zeroValue, typeInfo, hi, hz0]
    obtain ⟨zc, hzc⟩ : ∃ zc, Builtin.zeroCells R.zero.cells m = zc := ⟨_, rfl⟩
    rw [hzc] at hst hlen
    obtain ⟨w', hw'⟩ : ∃ w', w.setRow g (cur.toList.take (n * R.K) ++ zc.toList ++ cur.toList.drop (n * R.K + zc.toList.length)).toArray = w' := ⟨_, rfl⟩
    rw [hw'] at hst
    refine ⟨w', by
      obtain ⟨m', rfl⟩ : ∃ m', m = m' + 1 := ⟨m - 1, by omega⟩
      simp [Builtin.clear_, hzv, hzc, hst, run_underlying R.hSL], ?_⟩
    subst hw'
    refine ⟨⟨hx, .inr ⟨g, cap, _, rfl, hb, setRow_heap w g cur _ R.T _ hg, hnc, hcm, ?_, ?_⟩⟩, ⟨rfl, rfl, rfl, by simp, fun k _ hk => setRow_other w g k _ (fun e => hk (by simp [e]))⟩⟩
    · simp only [List.size_toArray, List.length_append, List.length_take, List.length_drop, Array.length_toList]
      simp only [Array.length_toList] at hlen
      omega
    · show (List.take (n * R.K) (_ ++ _ ++ _)) = xs
      rw [List.append_assoc, List.take_append_of_le_length (by rw [List.length_take, Array.length_toList]; omega), List.take_take, Nat.min_self]
      exact htake
theorem flat_drop (W : List Ob) (n : Nat) : flat (W.drop n) = (flat W).drop (n * 12) := by
  by_cases h : n ≤ W.length
  · have e : flat W = flat (W.take n) ++ flat (W.drop n) := by rw [← flat_app, List.take_append_drop]
    have hl : (flat (W.take n)).length = n * 12 := by rw [flat_len, List.length_take, Nat.min_eq_left h]
    rw [e, ← hl, List.drop_left]
  · rw [List.drop_of_length_le (by omega), List.drop_of_length_le (by rw [flat_len]; omega)]
    rfl
theorem add_zero' (b o j : Nat) : (⟨b, o, none⟩ : Addr).add j = ⟨b, o + j, none⟩ := add_spot' b o j
set_option maxHeartbeats 4000000 in
theorem odel_any (g cap : Nat) (W : List Ob) (n : Nat) (w : World) (h : OwO w 0 (.slice (some ⟨g, 0, none⟩) W.length cap) W) (hn : 0 < n) (hle : n ≤ W.length) :
    Calls Tryz.prog 72 #[.slice (some ⟨g, 0, none⟩) W.length cap, .int .i64 0, .int .i64 n] w fun e w' => e = .returned (.slice (some ⟨g, 0, none⟩) (W.length - n) cap) ∧ OwO w' 0 (.slice (some ⟨g, 0, none⟩) (W.length - n) cap) (W.drop n) ∧ Chg (fun k => k = g) w w' := by
  have hcap : W.length ≤ cap := by
    rcases h.2 with ⟨h1, _⟩ | ⟨g', cap', cur, hv, hb, hg, hnc, hcm, hcs, htake⟩
    · cases h1
    · simp only [Value.slice.injEq] at hv; omega
  have hd : OwO w.drew 0 (.slice (some ⟨g, 0, none⟩) W.length cap) W := h
  obtain ⟨A0, hA, hsrc⟩ : ∃ A0 : Addr, (if cap = n then some (⟨g, 0, none⟩ : Addr) else some ⟨g, n * 12, none⟩) = some A0 ∧ Hid (∀ t u, (flat (W.drop n))[t]? = some u → w.drew.cell? (A0.add t) = some u) := by
    by_cases hc : cap = n
    · refine ⟨⟨g, 0, none⟩, if_pos hc, fun t u hu => ?_⟩
      rw [List.drop_of_length_le (by omega)] at hu
      simp [flat] at hu
    · refine ⟨⟨g, n * 12, none⟩, if_neg hc, fun t u hu => ?_⟩
      have ht := (List.getElem?_eq_some_iff.1 hu).1
      rw [flat_len, List.length_drop] at ht
      rw [flat_drop, List.getElem?_drop] at hu
      rw [add_zero', World.ownsRow.cellAt hd (n * 12 + t) (by omega)]
      exact hu
  have hone : ∀ u ∈ flat (W.drop n), u.oneCell' = true := flat_ones _
  obtain ⟨w2, hr2, ho2, hg2⟩ := run_append_fits (P := Tryz.prog) w.drew 0 29 29 53 _ 12 underSL (info_parts infoOB).choose_spec.1 (info_parts infoOB).choose_spec.2.2.1 g 0 cap _ (own_head hd (Nat.zero_le _)) A0 (W.length - n) (cap - n) (flat (W.drop n)) (by rw [flat_len, List.length_drop]) hsrc.out hone (by omega)
  have ho2' : w2.ownsRow 0 (ROB).T (ROB).K (.slice (some ⟨g, 0, none⟩) (W.length - n) cap) (W.length - n) (flat (W.drop n)) := by
    have h9 := ho2
    rw [Nat.zero_add, Nat.zero_mul, List.take_zero, List.nil_append] at h9
    exact h9
  rw [Nat.zero_add] at hr2
  obtain ⟨w3, hr3, ho3, hg3⟩ := run_clear_own ROB (by decide) w2 0 0 g (W.length - n) (W.length - (W.length - n)) cap (cap - (W.length - n)) _ ho2' (by omega) (by omega)
  have hr3' : (Builtin.clear_ #[29] 0 #[.slice (some ⟨g, (W.length - n) * 12, none⟩) (W.length - (W.length - n)) (cap - (W.length - n))]).run Tryz.prog w2 = .ok (.tuple #[]) w3 := hr3
  have hcg : Chg (fun k => k = g) w w3 := ((Chg.refl _ w).drew.trans ((chg_grown hg2).mono (fun x _ e => by cases e; rfl)) (fun _ _ e => e)).trans ((chg_grown hg3).mono (fun x _ e => by cases e; rfl)) (fun _ _ e => e)
  have HO3 : Hid (OwO w3 0 (.slice (some ⟨g, 0, none⟩) (W.length - n) cap) (W.drop n)) := by
    show w3.ownsRow 0 53 12 _ (W.drop n).length _
    rw [List.length_drop]
    exact ho3
  have HCG := Lib.hid hcg
  have HR2 := Lib.hid hr2
  have mixed : Tryz.prog.follows Departure.mixedOrders = true := by kernel_rfl
  have hne : ((0 : Int) == (n : Int)) = false := beq_false_of_ne (by omega)
  clear h hd hsrc hone ho2 ho2' hg2 ho3 hg3 hcg hr2 hr3
  go_enter Tryz.func72, Tryz.ntmps72
  go_wp2_with fail
  go_region_law_o (refine step_app rfl (.tmp 22) (.tmp 25) 29 rfl (by simp [Act.eval, Act.put]) (by simp [Act.eval, Act.put]) HR2.out ?_)
  go_wp2_with fail
  go_ret
  exact ⟨rfl, HO3.out, HCG.out⟩
end Go.Proofs.YtfiaghfaijlfjaaGreat

namespace Go.Proofs.YtfiaghfaijlfjaaGreat
set_option maxRecDepth 100000
set_option linter.unusedVariables false
open Go.RowKit

/-- One pointer more. -/
theorem run_pt (w : World) (v : Value) (ps : List Nat) (hown : OwP w v ps) (b p : Nat) (hy : w.cell? ⟨b, 0, none⟩ = some (ptr p)) (hl : ps.length ≤ 3000) {ty : TypeId} :
    ∃ g cap w', (Builtin.append_ #[92, 92] ty #[v, .slice (some ⟨b, 0, none⟩) 1 1]).run Tryz.prog w = .ok (.slice (some ⟨g, 0, none⟩) (ps.length + 1) cap) w' ∧ OwP w' (.slice (some ⟨g, 0, none⟩) (ps.length + 1) cap) (ps ++ [p]) ∧ w.grownBy w' v.ownBlock ∧ (v.ownBlock = some g ∨ w.heap.size ≤ g) := by
  obtain ⟨g, cap, w', h1, h2, h3, _, h5⟩ := run_gappr RPT w 0 v ps hown b p (fun j hj => by
    have hj' : j < 1 := hj
    obtain rfl : j = 0 := by omega
    exact hy) hl (Nat.zero_le _) (ty := ty)
  exact ⟨g, cap, w', h1, h2, h3, h5⟩
/-- The blocks that letOut turns. -/
def LG (b : Nat) (vW vO : Value) : Nat → Prop := fun k => k = b ∨ vW.ownBlock = some k ∨ vO.ownBlock = some k
/-- What letOut leaves. -/
def loS (s : Sd) (x : Bt) : Sd := { s with W := s.W.drop x.2.length, L := s.L ++ [(x, 1)], nx := nxt x.1 }
section
variable {w : World} {F : Nat → Prop} {b : Nat} {s : Sd} {Z : Zs1} {vW vO : Value}
set_option maxHeartbeats 8000000 in
theorem letout_any (n : Int) (ys : List Ob) (u : Value) (h : PZ w F b s Z vW vO) (ho : ObI w F vW u ys) (hy : 0 < ys.length) (hyl : ys.length ≤ s.W.length) (hZ : Z.length ≤ 1000) :
    Calls Tryz.prog 41 #[.pointer (some ⟨b, 0, none⟩), .agg #[.int .i64 n, u]] w fun e w' => e = .returned (.tuple #[]) ∧ Chg (LG b vW vO) w w' ∧ ∃ Z' vW' vO', PZ w' (FN F w w') b (loS s (n, ys)) Z' vW' vO' ∧ (∃ p, Z' = Z ++ [(p, (n, ys), 1)]) ∧ (∀ g, vW'.ownBlock = some g → vW.ownBlock = some g) := by
  obtain ⟨au, cu, rfl⟩ := ho.os.form
  obtain ⟨aO, cO, rfl⟩ := h.oform
  obtain ⟨g, cap, rfl⟩ : ∃ g cap, vW = .slice (some ⟨g, 0, none⟩) s.W.length cap := by
    rcases h.wt.2 with ⟨_, h2⟩ | ⟨g, cap, cur, h2, _⟩
    · omega
    · exact ⟨g, cap, h2⟩
  obtain ⟨g0, hg0⟩ : ∃ g0, w.heap.size = g0 := ⟨_, rfl⟩
  obtain ⟨p, hp⟩ : ∃ p, g0 + 1 = p := ⟨_, rfl⟩
  obtain ⟨W1, hW1⟩ : ∃ W1, w.alloc (.cells #[.int .i64 n, .slice au ys.length cu] 34) = W1 := ⟨_, rfl⟩
  have hs1 : W1.heap.size = p := by rw [← hp, ← hg0, ← hW1]; simp
  have hb1 : Below w.heap.size w W1 := hW1 ▸ (Below.refl _ w).alloc (Nat.le_refl _) _
  have hg1 : W1.heap[g0]? = some (.cells #[.int .i64 n, .slice au ys.length cu] 34) := by rw [← hW1, ← hg0]; exact heap_alloc_new w _
  obtain ⟨W2, hW2⟩ : ∃ W2, W1.alloc (.cells #[.int .i64 n, .slice au ys.length cu, .int .i64 0] 103) = W2 := ⟨_, rfl⟩
  have hb2 : Below W1.heap.size W1 W2 := hW2 ▸ (Below.refl _ W1).alloc (Nat.le_refl _) _
  have hs2 : W2.heap.size = p + 1 := by rw [← hs1, ← hW2]; simp
  have hp2 : W2.heap[p]? = some (.cells #[.int .i64 n, .slice au ys.length cu, .int .i64 0] 103) := by rw [← hW2, ← hs1]; exact heap_alloc_new W1 _
  obtain ⟨W3, hW3⟩ : ∃ W3, W2.setCell ⟨p, 2, none⟩ (.int .i64 1) = W3 := ⟨_, rfl⟩
  have hs3 : W3.heap.size = p + 1 := by rw [← hs2, ← hW3]; simp [World.setCell]
  have hp3 : W3.heap[p]? = some (.cells #[.int .i64 n, .slice au ys.length cu, .int .i64 1] 103) := by rw [← hW3, heap_setCell_same W2 p 2 _ 103 _ hp2]; rfl
  have hc3 : Chg (fun k => k = p) W2 W3 := hW3 ▸ chg_pt _ _ _ _
  obtain ⟨W4, hW4⟩ : ∃ W4, W3.alloc (.cells #[ptr p] 97) = W4 := ⟨_, rfl⟩
  have hb4 : Below W3.heap.size W3 W4 := hW4 ▸ (Below.refl _ W3).alloc (Nat.le_refl _) _
  have hs4 : W4.heap.size = p + 2 := by rw [← hW4]; simp; omega
  have hFp : ∀ k, F k → k < g0 := fun k hk => hg0 ▸ h.lt k hk
  have hcg4 : Chg (fun k => w.heap.size ≤ k) w W4 := (((chg0 hb1 : Chg (fun k => w.heap.size ≤ k) w W1).trans (G := fun _ => False) (chg0 hb2) (fun _ _ e => e.elim)).trans hc3 (fun x _ e => by omega)).trans (G := fun _ => False) (chg0 hb4) (fun _ _ e => e.elim)
  have hoff : ∀ k, F k → ¬ w.heap.size ≤ k := fun k hk => by have := h.lt k hk; omega
  have h4 := (h.keep hcg4 hoff).mono (F' := FN F w W4) (fun k hk => .inl hk) (FN.lt h.lt hcg4.size)
  have ho4 : ObI W4 (FN F w W4) (.slice (some ⟨g, 0, none⟩) s.W.length cap) (.slice au ys.length cu) ys := (ho.chg hcg4 (fun k hk _ _ => hoff k hk)).mono (fun k hk => .inl hk)
  have hp4 : W4.heap[p]? = some (.cells #[.int .i64 n, .slice au ys.length cu, .int .i64 1] 103) := (hb4.block p (by omega)).trans hp3
  have hsn : SndAt W4 (FN F w W4) (.slice (some ⟨g, 0, none⟩) s.W.length cap) p ((n, ys), 1) := ⟨.inr (by omega), _, hp4, ho4⟩
  obtain ⟨ps, hps⟩ : ∃ ps, Z.map Prod.fst = ps := ⟨_, rfl⟩
  have hpl : ps.length = Z.length := by rw [← hps, List.length_map]
  have hot4 : OwP W4 (.slice aO Z.length cO) ps := hps ▸ h4.ot
  obtain ⟨gq, cq, W5, hr5, hq5, hg5, hv5⟩ := run_pt W4 (.slice aO Z.length cO) ps hot4 W3.heap.size p (by rw [← hW4]; simp) (by omega) (ty := 92)
  rw [hpl] at hr5 hq5
  have hnd : ((Z ++ [(p, (n, ys), 1)]).map Prod.fst).Nodup := by
    rw [List.map_append, List.nodup_append]
    refine ⟨h.nd, by simp, fun a ha b2 hb2 e => ?_⟩
    simp only [List.map_cons, List.map_nil, List.mem_singleton] at hb2
    obtain ⟨z, hz, rfl⟩ := List.mem_map.1 ha
    have := hFp _ (h.snd z hz).f
    omega
  have h6 := h4.oset (chg_grown hg5) (vO' := .slice (some ⟨gq, 0, none⟩) (Z.length + 1) cq) (Z' := Z ++ [(p, (n, ys), 1)]) (by
    rw [List.map_append, hps]
    exact hq5) (fun g2 hg2 => by cases hg2; exact hv5) hnd (fun z hz => by
    rcases List.mem_append.1 hz with h1 | h1
    · exact h4.snd z h1
    · rw [List.mem_singleton.1 h1]; exact hsn)
  obtain ⟨W6, hW6⟩ : ∃ W6, W5.setCell ⟨b, 4, none⟩ (.slice (some ⟨gq, 0, none⟩) (Z.length + 1) cq) = W6 := ⟨_, rfl⟩
  rw [hW6] at h6
  have hcg5 : Chg (LG b (.slice (some ⟨g, 0, none⟩) s.W.length cap) (.slice aO Z.length cO)) w W5 := (hcg4.mono (G := fun k => (LG b (.slice (some ⟨g, 0, none⟩) s.W.length cap) (.slice aO Z.length cO)) k ∨ w.heap.size ≤ k) (fun x _ e => .inr e)).trans (G := fun k => (LG b (.slice (some ⟨g, 0, none⟩) s.W.length cap) (.slice aO Z.length cO)) k ∨ w.heap.size ≤ k) ((chg_grown hg5).mono (fun x _ e => .inl (.inr (.inr e)))) (fun _ _ e => e) |> fun q => ⟨q.os, q.tape, q.output, q.size, fun k hk hn => q.block k hk (fun e => e.elim hn (fun e2 => by omega))⟩
  have hcg6 : Chg (LG b (.slice (some ⟨g, 0, none⟩) s.W.length cap) (.slice aO Z.length cO)) w W6 := hW6 ▸ hcg5.setCell (.inl (.inl rfl)) _
  have hbO : ∀ g2, (Value.slice aO Z.length cO).ownBlock = some g2 → g2 ≠ b := fun g2 e => (own_blk h.ot e).ne h.bt (by decide)
  have hb5 : W5.heap[b]? = some (.cells #[.int .i64 s.win, .int .i64 s.tries, .int .i64 s.nx, .slice (some ⟨g, 0, none⟩) s.W.length cap, .slice aO Z.length cO] 94) := by
    have e5 := (chg_grown hg5).block b (h4.lt b h4.fb) (fun e => hbO b e rfl)
    exact e5.trans h4.hp
  have hbW3 := (h.keep ((((chg0 hb1 : Chg (fun k => w.heap.size ≤ k) w W1).trans (G := fun _ => False) (chg0 hb2) (fun _ _ e => e.elim)).trans hc3 (fun x _ e => by omega))) hoff)
  have hg6 : W6.heap[g0]? = some (.cells #[.int .i64 n, .slice au ys.length cu] 34) := by
    have e1 : W2.heap[g0]? = W1.heap[g0]? := hb2.block g0 (by omega)
    have e2 : W3.heap[g0]? = W2.heap[g0]? := hc3.block g0 (by omega) (by omega)
    have e3 : W4.heap[g0]? = W3.heap[g0]? := hb4.block g0 (by omega)
    have e4 : W5.heap[g0]? = W4.heap[g0]? := (chg_grown hg5).block g0 (by omega) (fun e => by have := hFp _ (h.of g0 e); omega)
    have hgb : g0 ≠ b := fun e => by have := hFp b h.fb; omega
    have e5 : W6.heap[g0]? = W5.heap[g0]? := by rw [← hW6]; exact Below.heap_setCell _ _ _ _ hgb
    rw [e5, e4, e3, e2, e1]; exact hg1
  have hfg : F g := h.wf g rfl
  have C6 := Lib.hid (odel_any g cap s.W ys.length W6.drew h6.wt hy hyl)
  have CS := Lib.hid (sstore_any p 2 0 1 W2 (by simp [World.cell?, hp2]) (by simp [World.frozen?, hp2]))
  rw [← hW4] at hr5
  obtain ⟨d0, d1, d2, d3, d4, df⟩ := hbW3.cells
  have x40 : W5.cell? ⟨b, 4, none⟩ = some (.slice aO Z.length cO) := by simp [World.cell?, hb5]
  have x4f : ∀ j, W5.frozen? ⟨b, j, none⟩ = false := fun j => by simp [World.frozen?, hb5]
  have HX4 := Lib.hid (And.intro x40 x4f)
  have HD := Lib.hid (And.intro d4 df)
  have H6 := Lib.hid h6
  have HCG6 := Lib.hid hcg6
  have HW1 := Lib.hid hW1
  have HW2 := Lib.hid hW2
  have HW3 := Lib.hid hW3
  have HW6 := Lib.hid hW6
  have HG0 := Lib.hid hg0
  have HP := Lib.hid hp
  have HS1 := Lib.hid hs1
  have HG6 := Lib.hid hg6
  have HG1 := Lib.hid hg1
  have HR5 := Lib.hid hr5
  have HFG := Lib.hid hfg
  have HZL := Lib.hid h.zl
  have HFB := Lib.hid h.fb
  have HFP := Lib.hid hFp
  have HY := Lib.hid hyl
  have HSZ : Hid (w.heap.size ≤ W4.heap.size ∧ W4.heap.size ≤ W5.heap.size ∧ W5.heap.size = W6.heap.size) := ⟨hcg4.size, hg5.size, by rw [← hW6]; simp [World.setCell]⟩
  clear hW1 hW2 hW3 hW4 hW6 hg0 hp hs1 hs2 hs3 hs4 hb1 hb2 hb4 hc3 hcg4 hcg5 hcg6 hoff h4 ho4 hp4 hsn hps hpl hot4 hr5 hq5 hg5 hv5 hnd h6 hbO hb5 hbW3 hg6 hg1 hfg d0 d1 d2 d3 d4 df x40 x4f h ho hp2 hp3 hFp hyl
  go_enter Tryz.func41, Tryz.ntmps41
  go_upto_region 1 with (fail)
  rw [HW1.out]
  simp only [HG0.out]
  have v0 : W1.cell? ⟨g0, 0, none⟩ = some (.int .i64 n) := by simp [World.cell?, HG1.out]
  have v1 : W1.cell? ⟨g0, 1, none⟩ = some (.slice au ys.length cu) := by simp [World.cell?, HG1.out]
  go_upto_region 2 with (fail)
  rw [HW2.out]
  simp only [HS1.out]
  clear v0 v1
  go_wp2_with fail
  refine CS.out.mono ?_
  rintro e w9 ⟨rfl, rfl⟩
  rw [HW3.out]
  obtain ⟨d4, df⟩ := HD.out
  go_upto_region 4 with (at_builtin; refine app_go rfl (.tmp 16) (.tmp 18) 92 rfl _ _ _ _ rfl rfl HR5.out ?_; obtain ⟨x40, x4f⟩ := HX4.out; clear d4 df)
  rw [HW6.out]
  obtain ⟨m0, m1, m2, m3, m4, mf⟩ := H6.out.cells
  have v0 : W6.cell? ⟨g0, 0, none⟩ = some (.int .i64 n) := by simp [World.cell?, HG6.out]
  have v1 : W6.cell? ⟨g0, 1, none⟩ = some (.slice au ys.length cu) := by simp [World.cell?, HG6.out]
  clear m0 m1 m2 m4 x40 x4f
  go_region_with (go_at_call 72; refine C6.out.mono ?_; rintro e W7 ⟨rfl, hq7, hc7⟩; have HQ7 := Lib.hid hq7; have HC7 := Lib.hid hc7; clear hq7 hc7 m3 mf v0 v1; have hp7 : W7.heap[b]? = W6.heap[b]? := HC7.out.block b (H6.out.lt b H6.out.fb) (fun e => (own_blk H6.out.wt (e ▸ rfl : (Value.slice (some ⟨g, 0, none⟩) s.W.length cap).ownBlock = some b)).ne H6.out.bt (by decide) rfl); have m3 : W7.cell? ⟨b, 3, none⟩ = some (.slice (some ⟨g, 0, none⟩) s.W.length cap) := (World.cell?_of_block hp7).trans H6.out.cells.2.2.2.1; have mf : ∀ j, W7.frozen? ⟨b, j, none⟩ = false := (fun j => (World.frozen?_of_block hp7).trans (H6.out.cells.2.2.2.2.2 j)); clear hp7)
  all_goals
    obtain ⟨W8, hW8⟩ : ∃ W8, W7.setCell ⟨b, 3, none⟩ (.slice (some ⟨g, 0, none⟩) (s.W.length - ys.length) cap) = W8 := ⟨_, rfl⟩
    have hc67 : Chg (fun k => (Value.slice (some ⟨g, 0, none⟩) s.W.length cap).ownBlock = some k) W6 W7 := ((Chg.refl _ W6).drew.trans HC7.out (fun _ _ e => e)).mono (fun x _ e => by rw [e]; rfl)
    have ho7 : OwO W7 0 (.slice (some ⟨g, 0, none⟩) (s.W.length - ys.length) cap) (s.W.drop ys.length) := HQ7.out
    have h8 := H6.out.wset hc67 ho7 (fun g2 hg2 => .inl hg2)
    rw [hW8] at h8
    have hg8 : W8.heap[g0]? = some (.cells #[.int .i64 n, .slice au ys.length cu] 34) := by
      have e1 : W7.heap[g0]? = W6.heap[g0]? := HC7.out.block g0 (some_lt HG6.out) (fun e => by have := HFP.out g HFG.out; omega)
      have e2 : W8.heap[g0]? = W7.heap[g0]? := by rw [← hW8]; exact Below.heap_setCell _ _ _ _ (fun e => by have h9 := HFP.out b HFB.out; have e9 : g0 = b := e; omega)
      rw [e2, e1]; exact HG6.out
    have v0 : W8.cell? ⟨g0, 0, none⟩ = some (.int .i64 n) := by simp [World.cell?, hg8]
    have CN := Lib.hid (z_next_any n W8)
    have hcg8 : Chg (LG b (.slice (some ⟨g, 0, none⟩) s.W.length cap) (.slice aO Z.length cO)) w W8 := hW8 ▸ ((HCG6.out.trans hc67 (fun x _ e => .inr (.inl e))).setCell (.inl (.inl rfl)) _)
    have HCG8 := Lib.hid hcg8
    have H8 := Lib.hid h8
    have HS7 : Hid (W6.heap.size ≤ W7.heap.size ∧ W7.heap.size = W8.heap.size) := ⟨hc67.size, by rw [← hW8]; simp [World.setCell]⟩
    have HW8 := Lib.hid hW8
    clear hW8 hc67 ho7 h8 hg8 hcg8 m3 mf
    rw [HW8.out]
    go_wp2_with fail
    refine CN.out.mono ?_
    rintro e W9 ⟨rfl, hb9⟩
    have h9 := H8.out.below hb9
    obtain ⟨c0, c1, c2, c3, c4, cf⟩ := h9.cells
    have h10 := h9.nset (z_nxt n)
    have hcg10 : Chg (LG b (.slice (some ⟨g, 0, none⟩) s.W.length cap) (.slice aO Z.length cO)) w (W9.setCell ⟨b, 2, none⟩ (.int .i64 (z_nxt n))) := (HCG8.out.trans (G := fun _ => False) (chg0 hb9) (fun _ _ e => e.elim)).setCell (.inl (.inl rfl)) _
    have HCG10 := Lib.hid hcg10
    have H10 := Lib.hid h10
    have HS9 : Hid (W8.heap.size ≤ W9.heap.size) := hb9.size
    clear v0 c0 c1 c3 c4 hb9 h9 h10 hcg10
    go_wp2_with fail
    go_end0
    have hz : z_nxt n = nxt n := by unfold z_nxt nxt; omega
    have hfin := H10.out.mono (F' := FN F w (W9.setCell ⟨b, 2, none⟩ (.int .i64 (z_nxt n)))) (fun k hk => by
      obtain ⟨s1, s2, s3⟩ := HSZ.out
      obtain ⟨s4, s5⟩ := HS7.out
      have s6 := HS9.out
      have s7 : (W9.setCell ⟨b, 2, none⟩ (.int .i64 (z_nxt n))).heap.size = W9.heap.size := by simp [World.setCell]
      unfold FN at hk ⊢
      rcases hk with ((hk | hk) | hk) | hk
      · exact .inl hk
      · exact .inr (by omega)
      · exact .inr (by omega)
      · exact .inr (by omega)) (FN.lt (fun k hk => by have := HFP.out k hk; have := HG0.out; omega) HCG10.out.size)
    have hst : { s with W := s.W.drop ys.length, L := (Z ++ [(p, (n, ys), 1)]).map Prod.snd, nx := z_nxt n } = loS s (n, ys) := by
      unfold loS
      rw [hz, HZL.out, List.map_append]
      rfl
    refine ⟨rfl, HCG10.out, _, .slice (some ⟨g, 0, none⟩) (s.W.length - ys.length) cap, _, hst ▸ hfin, ⟨p, rfl⟩, fun g2 hg2 => hg2⟩
end
end Go.Proofs.YtfiaghfaijlfjaaGreat

namespace Go.Proofs.YtfiaghfaijlfjaaGreat
set_option maxRecDepth 100000
set_option linter.unusedVariables false
open Go.RowKit

def stk (s : Sd) (k : Nat) : Sd := { s with W := s.W.drop (cnt ((sdT s).take k)), L := s.L ++ ((sdT s).take k).map fun p => (p, 1), nx := numAt s.nx k }
theorem stk_zero (s : Sd) : stk s 0 = s := by
  unfold stk
  show ({ s with W := s.W, L := s.L ++ [], nx := s.nx } : Sd) = s
  rw [List.append_nil]
theorem stk_end (s : Sd) : stk s (sdT s).length = sdS s := by
  unfold stk sdS nxA
  rw [List.take_of_length_le (Nat.le_refl _)]
theorem cnt_app (a b : List Bt) : cnt (a ++ b) = cnt a + cnt b := by unfold cnt; rw [List.map_append, List.sum_append]
theorem sdT_one {s : Sd} {k : Nat} (hk : k < (sdT s).length) : (sdT s).take (k + 1) = (sdT s).take k ++ [(sdT s).getD k zb] := by
  rw [List.take_succ_eq_append_getElem hk]
  simp [List.getD, hk]
theorem stk_succ {s : Sd} (h : SdOk s) {k : Nat} (hk : k < (sdT s).length) : loS (stk s k) ((sdT s).getD k zb) = stk s (k + 1) := by
  unfold loS stk
  rw [sdT_one hk, cnt_app, List.map_append, List.drop_drop, List.append_assoc, numAt_succ, sdT_num h k hk]
  rfl
theorem cnt_le {s : Sd} (k : Nat) : cnt ((sdT s).take k) ≤ s.W.length := by
  have h1 := congrArg List.length (send_all s)
  rw [List.length_append, List.length_flatten, List.map_map] at h1
  have h2 : cnt (sdT s) = (List.map (List.length ∘ Prod.snd) (sdT s)).sum := rfl
  have h3 := cnt_app ((sdT s).take k) ((sdT s).drop k)
  rw [List.take_append_drop] at h3
  omega
theorem stk_len {s : Sd} (h : SdOk s) {k : Nat} (hk : k < (sdT s).length) : BtOk ((sdT s).getD k zb).1 ((sdT s).getD k zb).2 ∧ ((sdT s).getD k zb).2.length ≤ (stk s k).W.length := by
  obtain ⟨R, hR, _⟩ := sdT_split s
  have hl : k < (packL 512 s.W s.nx).length := by rw [hR, List.length_append]; omega
  have hb := packL_ok h.wok (most := 512) ⟨by decide, by decide⟩ s.nx k hl
  rw [hR, getD_app hk] at hb
  refine ⟨hb.1, ?_⟩
  have h1 := cnt_le (s := s) (k + 1)
  rw [sdT_one hk, cnt_app] at h1
  have h2 : cnt [(sdT s).getD k zb] = ((sdT s).getD k zb).2.length := Nat.add_zero _
  show _ ≤ (s.W.drop (cnt ((sdT s).take k))).length
  rw [List.length_drop]
  omega
theorem near_all {s : Sd} (h : SdOk s) {k : Nat} (hk : k < (sdT s).length) : ∀ e ∈ (stk s k).L, withB ((sdT s).getD k zb).1 e.1.1 s.win = true := fun e he => by
  have hx := sdT_in (getD_mem (d := zb) hk)
  have hn := sdT_num h k hk
  have hf := sdT_far h k hk
  rw [← hn] at hf
  have hle : far (fstN s) e.1.1 ≤ far (fstN s) ((sdT s).getD k zb).1 := by
    rcases List.mem_append.1 he with h1 | h1
    · have := h.below e h1; omega
    · obtain ⟨p, hp, rfl⟩ := List.mem_map.1 h1
      obtain ⟨i, hi, rfl⟩ := List.mem_iff_getElem.1 hp
      rw [List.length_take] at hi
      have hi' : i < (sdT s).length := by omega
      have e1 : ((sdT s).take k)[i] = (sdT s).getD i zb := by rw [List.getElem_take]; simp [List.getD, hi']
      have e2 := sdT_far h i hi'
      rw [← sdT_num h i hi'] at e2
      show far (fstN s) (((sdT s).take k)[i]).1 ≤ _
      rw [e1, e2, hf]
      omega
  have h3 := far_shift hle
  have h4 := far_bd (fstN s) e.1.1
  exact decide_eq_true (by rw [h3]; omega)
theorem far_stop {s : Sd} (h : SdOk s) {p : Bt} {R : List Bt} (hR : packL 512 s.W s.nx = sdT s ++ p :: R) : ∃ e, (sdS s).L[0]? = some e ∧ withB p.1 e.1.1 s.win = false := by
  obtain ⟨R2, hR2, hno⟩ := sdT_split s
  have e2 : R2 = p :: R := List.append_cancel_left (hR2.symm.trans hR)
  have hno2 := hno p R e2
  cases hL : (sdS s).L with
  | nil =>
    have hL' : s.L ++ (sdT s).map (fun p => (p, (1 : Int))) = [] := hL
    obtain ⟨h1, h2⟩ := List.append_eq_nil_iff.1 hL'
    have h3 : sdT s = [] := List.map_eq_nil_iff.1 h2
    have hl : 0 < (packL 512 s.W s.nx).length := by rw [hR, List.length_append, List.length_cons]; omega
    have hn := packL_num 512 s.W s.nx 0 hl
    rw [lft_nx h, hR, h3] at hn
    have hn' : p.1 = s.nx := hn
    have hf : fstN s = s.nx := by unfold fstN; rw [h1]
    rw [hn', hf, far_self] at hno2
    exact absurd (by have := h.win; omega) hno2
  | cons e l =>
    refine ⟨e, rfl, ?_⟩
    have hf : fstN (sdS s) = e.1.1 := by unfold fstN; rw [hL]
    rw [fst_send h] at hf
    rw [hf] at hno2
    exact decide_eq_false hno2
end Go.Proofs.YtfiaghfaijlfjaaGreat

namespace Go.Proofs.YtfiaghfaijlfjaaGreat
set_option maxRecDepth 100000
set_option linter.unusedVariables false
open Go.RowKit

theorem PZ.pt {w : World} {F : Nat → Prop} {b : Nat} {s : Sd} {Z : Zs1} {vW : Value} {a : Option Addr} {c n : Nat} (h : PZ w F b s Z vW (.slice a n c)) (hn : n = Z.length) {k : Nat} {z : Nat × Bt × Int} (hz : Z[k]? = some z) : ∃ g off, a = some ⟨g, off, none⟩ ∧ w.cell? ⟨g, off + k, none⟩ = some (ptr z.1) ∧ SndAt w F vW z.1 z.2 ∧ w.cell? ⟨z.1, 2, none⟩ = some (.int .i64 z.2.2) ∧ w.frozen? ⟨z.1, 2, none⟩ = false ∧ w.cell? ⟨z.1, 0, none⟩ = some (.int .i64 z.2.1.1) := by
  subst hn
  obtain ⟨hk, rfl⟩ := List.getElem?_eq_some_iff.1 hz
  obtain ⟨ps, hps⟩ : ∃ ps, Z.map Prod.fst = ps := ⟨_, rfl⟩
  have hpl : ps.length = Z.length := by rw [← hps, List.length_map]
  have hot : OwP w (.slice a ps.length c) ps := by rw [hpl, ← hps]; exact h.ot
  obtain ⟨g, off, h1, h2, h3⟩ := pt_at (Gs_of_own (R := RPT) hot).1 (i := k) (by omega)
  have e : ps.getD k 0 = Z[k].1 := by rw [← hps]; simp [List.getD, hk]
  rw [e] at h3
  have hs := h.snd _ (List.getElem_mem hk)
  obtain ⟨u, h4, h5⟩ := hs.cell
  exact ⟨g, off, h1, h3, hs, by simp [World.cell?, h4], by simp [World.frozen?, h4], by simp [World.cell?, h4]⟩
def incZ (z : Nat × Bt × Int) : Nat × Bt × Int := (z.1, z.2.1, z.2.2 + 1)
theorem agB_no {s : Sd} {Z : Zs1} (hz : s.L = Z.map Prod.snd) {k : Nat} {z : Nat × Bt × Int} (hk : Z[k]? = some z) (h : z.2.2 = s.tries) : agB s = false := by
  obtain ⟨hk', rfl⟩ := List.getElem?_eq_some_iff.1 hk
  unfold agB
  rw [List.all_eq_false]
  exact ⟨Z[k].2, by rw [hz]; exact List.mem_map.2 ⟨_, List.getElem_mem hk', rfl⟩, by simp; omega⟩
theorem agB_yes {s : Sd} {Z : Zs1} (hok : SdOk s) (hz : s.L = Z.map Prod.snd) (h : ∀ (k : Nat) (z : Nat × Bt × Int), Z[k]? = some z → z.2.2 ≠ s.tries) : agB s = true := by
  unfold agB
  rw [List.all_eq_true]
  intro e he
  have h1 := hok.sent e he
  rw [hz] at he
  obtain ⟨z, hz2, rfl⟩ := List.mem_map.1 he
  obtain ⟨k, hk, rfl⟩ := List.mem_iff_getElem.1 hz2
  have := h k Z[k] (List.getElem?_eq_getElem hk)
  exact decide_eq_true (by omega)
theorem agS_map {s : Sd} {Z : Zs1} (hb : agB s = true) (hz : s.L = Z.map Prod.snd) : { s with L := (Z.map incZ).map Prod.snd } = agS s := by
  unfold agS
  rw [if_pos hb, hz, List.map_map, List.map_map]
  rfl
theorem inc_step {Z : Zs1} {k : Nat} {z : Nat × Bt × Int} (hz : Z[k]? = some z) : (Z.take k).map incZ ++ Z.drop k = (Z.take k).map incZ ++ z :: Z.drop (k + 1) ∧ (Z.take (k + 1)).map incZ ++ Z.drop (k + 1) = (Z.take k).map incZ ++ incZ z :: Z.drop (k + 1) := by
  obtain ⟨hk, rfl⟩ := List.getElem?_eq_some_iff.1 hz
  constructor
  · rw [List.drop_eq_getElem_cons hk]
  · rw [List.take_succ_eq_append_getElem hk, List.map_append, List.append_assoc]
    rfl
theorem inc_at {Z : Zs1} {k : Nat} {z : Nat × Bt × Int} (hz : Z[k]? = some z) : ((Z.take k).map incZ ++ Z.drop k)[k]? = some z ∧ ((Z.take k).map incZ ++ Z.drop k).length = Z.length := by
  obtain ⟨hk, rfl⟩ := List.getElem?_eq_some_iff.1 hz
  have hl : ((Z.take k).map incZ).length = k := by rw [List.length_map, List.length_take]; omega
  refine ⟨?_, by rw [List.length_append, hl, List.length_drop]; omega⟩
  rw [List.getElem?_append_right (by omega), hl, Nat.sub_self, List.getElem?_drop, Nat.add_zero, List.getElem?_eq_getElem hk]
theorem inc_fst (X : Zs1) : (X.map incZ).map Prod.fst = X.map Prod.fst := by rw [List.map_map]; rfl
section
variable {w : World} {F : Nat → Prop} {b : Nat} {s : Sd} {Z : Zs1} {vW vO : Value}
set_option maxHeartbeats 8000000 in
theorem pagain_any (h : PZ w F b s Z vW vO) (hok : SdOk s) : Calls Tryz.prog 19 #[.pointer (some ⟨b, 0, none⟩)] w fun e w' => ∃ r, e = .returned (.tuple #[r, .bool (agB s)]) ∧ Chg F w w' ∧ (∃ Z', PZ w' F b (agS s) Z' vW vO) ∧ RowB w' w.heap.size r (agL s) := by
  obtain ⟨aO, cO, rfl⟩ := h.oform
  have HPZ := Lib.hid h
  have HOK := Lib.hid hok
  have hzl : Z.length ≤ 16 := (h.olen hok).1
  obtain ⟨c0, c1, c2, c3, c4, cf⟩ := h.cells
  clear h hok c0 c1 c2 c3 cf
  go_enter Tryz.func19, Tryz.ntmps19
  go_wp2_with fail
  clear c4
  go_loopw [15] (fun iv wr => ∃ k : Nat, k ≤ Z.length ∧ iv = .int .i64 k ∧ Hid (Below w.heap.size w wr) ∧ Hid (∀ (i : Nat) (z : Nat × Bt × Int), i < k → Z[i]? = some z → z.2.2 ≠ s.tries)) (fun i _ => Z.length - (intOf i).toNat)
  case atStart => exact ⟨0, Nat.zero_le _, rfl, Below.refl _ _, fun i z hi => absurd hi (Nat.not_lt_zero i)⟩
  case round =>
    obtain ⟨k, hk, rfl, HB, HN⟩ := hrel
    by_cases hlt : k < Z.length
    · have hr := HPZ.out.below HB.out
      obtain ⟨z, hz⟩ : ∃ z, Z[k]? = some z := ⟨_, List.getElem?_eq_getElem hlt⟩
      obtain ⟨g, off, rfl, p0, hs, p2, pf, -⟩ := hr.pt rfl hz
      obtain ⟨c0, c1, c2, c3, c4, cf⟩ := hr.cells
      obtain ⟨p, ⟨n, ys⟩, t⟩ := z
      simp only at p0 p2 pf
      have HR := Lib.hid hr
      have HZ := Lib.hid hz
      have CL := Lib.hid (fun W h => sload_any p 2 t W h)
      have hltz : (k : Int) < Z.length := by omega
      have hbl := hr.lt b hr.fb
      have hpl := hr.lt p hs.f
      have kc : ∀ w', Below wr.heap.size wr w' → w'.cell? ⟨b, 1, none⟩ = some (.int .i64 s.tries) ∧ w'.cell? ⟨p, 2, none⟩ = some (.int .i64 t) := fun w' h => ⟨(h.cell (p := ⟨b, 1, none⟩) hbl).trans c1, (h.cell (p := ⟨p, 2, none⟩) hpl).trans p2⟩
      clear c0 c1 c2 c3 c4 cf hs hr hz pf p2
      go_upto_region 6 with (fail)
      clear p0
      refine T3.wp_region_tail (C := fun w' => Below wr.heap.size wr w') (X := fun _ w w' => Below w.heap.size w w') (n := 45) 8 (by kernel_rfl) (by kernel_rfl) (by kernel_rfl) (by kernel_rfl) rfl (fun _ w => Below.refl _ w) (Below.refl _ _).drew ?_
      simp only [List.take_succ_cons, List.take_zero, List.drop_succ_cons, List.drop_zero]
      refine T3.w_is (fun _ w => Below.refl _ w) rfl _ (.inl rfl) (fun ρ w hC hc hfn hf => by have e5 : ρ (.tmp 5) = _ := hf 5 (by decide); (conv => lhs; simp [execOp, go_sem, hc, e5])) ?_
      refine T3.w_is (fun _ w => Below.refl _ w) rfl _ (.inl rfl) (fun ρ w hC hc hfn hf => by have e19 : ρ (.tmp 19) = _ := hf 19 (by decide); (conv => lhs; simp [execOp, go_sem, hc, e19])) ?_
      refine T3.w_is (fun _ w => Below.refl _ w) rfl _ (.inl rfl) (fun ρ w hC hc hfn hf => by have e20 : ρ (.tmp 20) = _ := hf 20 (by decide); (conv => lhs; simp [execOp, go_sem, hc, e20])) ?_
      refine T3.w_call rfl (Is _) (fun _ _ _ _ _ h _ => h) 43 (.inl rfl) (fun ρ w hC hc hfn hf => by have e21 : ρ (.tmp 21) = _ := hf 21 (by decide); exact ⟨_, by (conv => lhs; simp [execOp, resolve, invoke, go_sem, hc, hfn, e21]), (sload_any p 2 t w (kc w hC).2).mono fun e w' h => by obtain ⟨rfl, rfl⟩ := h; exact ⟨_, rfl, hC, Below.refl _ _, rfl⟩⟩) ?_
      refine T3.w_is (fun _ w => Below.refl _ w) rfl _ (.inl rfl) (fun ρ w hC hc hfn hf => by have e0 : ρ (.tmp 0) = _ := hf 0 (by decide); (conv => lhs; simp [execOp, go_sem, hc, e0])) ?_
      refine T3.w_is (fun _ w => Below.refl _ w) rfl _ (.inl rfl) (fun ρ w hC hc hfn hf => by have e23 : ρ (.tmp 23) = _ := hf 23 (by decide); (conv => lhs; simp [execOp, go_sem, hc, e23])) ?_
      refine T3.w_is (fun _ w => Below.refl _ w) rfl _ (.inl rfl) (fun ρ w hC hc hfn hf => by have e24 : ρ (.tmp 24) = _ := hf 24 (by decide); (conv => lhs; simp [execOp, go_sem, hc, e24])) ?_
      refine T3.w_is (fun _ w => Below.refl _ w) rfl _ (.inl rfl) (fun ρ w hC hc hfn hf => by have e25 : ρ (.tmp 25) = _ := hf 25 (by decide); (conv => lhs; simp [execOp, go_sem, hc, e25, kc w hC])) ?_
      intro A V5 hC hn hd hf
      have y0 : A.eval (.tmp 0) = _ := Eq.trans (hf 0) (by conv => lhs; simp [go_sem])
      have y1 : A.eval (.tmp 1) = _ := Eq.trans (hf 1) (by conv => lhs; simp [go_sem])
      have y2 : A.eval (.tmp 2) = _ := Eq.trans (hf 2) (by conv => lhs; simp [go_sem])
      have y3 : A.eval (.tmp 3) = _ := Eq.trans (hf 3) (by conv => lhs; simp [go_sem])
      have y4 : A.eval (.tmp 4) = _ := Eq.trans (hf 4) (by conv => lhs; simp [go_sem])
      have y5 : A.eval (.tmp 5) = _ := Eq.trans (hf 5) (by conv => lhs; simp [go_sem])
      have y6 : A.eval (.tmp 6) = _ := Eq.trans (hf 6) (by conv => lhs; simp [go_sem])
      have y7 : A.eval (.tmp 7) = _ := Eq.trans (hf 7) (by conv => lhs; simp [go_sem])
      have y8 : A.eval (.tmp 8) = _ := Eq.trans (hf 8) (by conv => lhs; simp [go_sem])
      have y9 : A.eval (.tmp 9) = _ := Eq.trans (hf 9) (by conv => lhs; simp [go_sem])
      have y10 : A.eval (.tmp 10) = _ := Eq.trans (hf 10) (by conv => lhs; simp [go_sem])
      have y11 : A.eval (.tmp 11) = _ := Eq.trans (hf 11) (by conv => lhs; simp [go_sem])
      have y12 : A.eval (.tmp 12) = _ := Eq.trans (hf 12) (by conv => lhs; simp [go_sem])
      have y13 : A.eval (.tmp 13) = _ := Eq.trans (hf 13) (by conv => lhs; simp [go_sem])
      have y14 : A.eval (.tmp 14) = _ := Eq.trans (hf 14) (by conv => lhs; simp [go_sem])
      have y15 : A.eval (.tmp 15) = _ := Eq.trans (hf 15) (by conv => lhs; simp [go_sem])
      have y16 : A.eval (.tmp 16) = _ := Eq.trans (hf 16) (by conv => lhs; simp [go_sem])
      have y17 : A.eval (.tmp 17) = _ := Eq.trans (hf 17) (by conv => lhs; simp [go_sem])
      have y18 : A.eval (.tmp 18) = _ := Eq.trans (hf 18) (by conv => lhs; simp [go_sem])
      have y19 : A.eval (.tmp 19) = _ := hf 19
      have y20 : A.eval (.tmp 20) = _ := hf 20
      have y21 : A.eval (.tmp 21) = _ := hf 21
      have y22 : A.eval (.tmp 22) = _ := hf 22
      have y23 : A.eval (.tmp 23) = _ := hf 23
      have y24 : A.eval (.tmp 24) = _ := hf 24
      have y25 : A.eval (.tmp 25) = _ := hf 25
      have y26 : A.eval (.tmp 26) = _ := hf 26
      have y27 : A.eval (.tmp 27) = _ := Eq.trans (hf 27) (by conv => lhs; simp [go_sem])
      have y28 : A.eval (.tmp 28) = _ := Eq.trans (hf 28) (by conv => lhs; simp [go_sem])
      have y29 : A.eval (.tmp 29) = _ := Eq.trans (hf 29) (by conv => lhs; simp [go_sem])
      have y30 : A.eval (.tmp 30) = _ := Eq.trans (hf 30) (by conv => lhs; simp [go_sem])
      have y31 : A.eval (.tmp 31) = _ := Eq.trans (hf 31) (by conv => lhs; simp [go_sem])
      have y32 : A.eval (.tmp 32) = _ := Eq.trans (hf 32) (by conv => lhs; simp [go_sem])
      have y33 : A.eval (.tmp 33) = _ := Eq.trans (hf 33) (by conv => lhs; simp [go_sem])
      have y34 : A.eval (.tmp 34) = _ := Eq.trans (hf 34) (by conv => lhs; simp [go_sem])
      have y35 : A.eval (.tmp 35) = _ := Eq.trans (hf 35) (by conv => lhs; simp [go_sem])
      have y36 : A.eval (.tmp 36) = _ := Eq.trans (hf 36) (by conv => lhs; simp [go_sem])
      have y37 : A.eval (.tmp 37) = _ := Eq.trans (hf 37) (by conv => lhs; simp [go_sem])
      have y38 : A.eval (.tmp 38) = _ := Eq.trans (hf 38) (by conv => lhs; simp [go_sem])
      have y39 : A.eval (.tmp 39) = _ := Eq.trans (hf 39) (by conv => lhs; simp [go_sem])
      have y40 : A.eval (.tmp 40) = _ := Eq.trans (hf 40) (by conv => lhs; simp [go_sem])
      have y41 : A.eval (.tmp 41) = _ := Eq.trans (hf 41) (by conv => lhs; simp [go_sem])
      have y42 : A.eval (.tmp 42) = _ := Eq.trans (hf 42) (by conv => lhs; simp [go_sem])
      have y43 : A.eval (.tmp 43) = _ := Eq.trans (hf 43) (by conv => lhs; simp [go_sem])
      have y44 : A.eval (.tmp 44) = _ := Eq.trans (hf 44) (by conv => lhs; simp [go_sem])
      clear hf
      have hA := frame_eq hn
      rw [show List.range 45 = [0, 1, 2, 3, 4, 5, 6, 7, 8, 9, 10, 11, 12, 13, 14, 15, 16, 17, 18, 19, 20, 21, 22, 23, 24, 25, 26, 27, 28, 29, 30, 31, 32, 33, 34, 35, 36, 37, 38, 39, 40, 41, 42, 43, 44] from rfl, hd] at hA
      simp only [List.map_cons, List.map_nil, y0, y1, y2, y3, y4, y5, y6, y7, y8, y9, y10, y11, y12, y13, y14, y15, y16, y17, y18, y19, y20, y21, y22, y23, y24, y25, y26, y27, y28, y29, y30, y31, y32, y33, y34, y35, y36, y37, y38, y39, y40, y41, y42, y43, y44] at hA
      clear y0 y1 y2 y3 y4 y5 y6 y7 y8 y9 y10 y11 y12 y13 y14 y15 y16 y17 y18 y19 y20 y21 y22 y23 y24 y25 y26 y27 y28 y29 y30 y31 y32 y33 y34 y35 y36 y37 y38 y39 y40 y41 y42 y43 y44
      clear hn hd
      subst hA
      have HB5 := Lib.hid (HB.out.trans (hC.mono HB.out.size))
      clear kc hC
      by_cases ht : t = s.tries
      · have hag : Hid (agB s = false) := agB_no HPZ.out.zl HZ.out ht
        have hb9 : (t == s.tries) = true := by rw [ht]; exact beq_self_eq_true _
        clear ht
        go_wp2_with fail
        go_ret2
        have hal : agL s = [] := by unfold agL; rw [hag.out]; rfl
        have has : agS s = s := by unfold agS; rw [hag.out]; rfl
        rw [hag.out, hal, has]
        exact ⟨_, rfl, chg0 HB5.out, ⟨Z, HPZ.out.below HB5.out⟩, RowB_nil _ _⟩
      · have hb9 : (t == s.tries) = false := beq_false_of_ne ht
        have HT := Lib.hid ht
        clear ht
        go_wp2_with fail
        go_roundw
        case rel => exact ⟨k + 1, by omega, by go_num, HB5.out, fun i z hi hz => by
          by_cases h9 : i = k
          · subst h9
            have e := hz.symm.trans HZ.out
            cases e
            exact HT.out
          · exact HN.out i z (by omega) hz⟩
        case measure => simp [intOf]; omega
    · obtain rfl : k = Z.length := by omega
      have hag : Hid (agB s = true) := agB_yes HOK.out HPZ.out.zl (fun i z hz => HN.out i z (List.getElem?_eq_some_iff.1 hz).1 hz)
      have hr := HPZ.out.below HB.out
      obtain ⟨c0, c1, c2, c3, c4, cf⟩ := hr.cells
      have HR := Lib.hid hr
      clear hr HN c0 c1 c2 c3 cf
      go_wp2_with fail
      clear c4
      obtain ⟨wo, hwo⟩ : ∃ wo, wo = wr := ⟨_, rfl⟩
      subst hwo
      go_loopw [34] (fun iv wr => ∃ (k : Nat), k ≤ Z.length ∧ iv = .int .i64 k ∧ Hid (Chg F w wr) ∧ Hid (wr.heap.size = wo.heap.size) ∧ Hid (PZ wr F b { s with L := ((Z.take k).map incZ ++ Z.drop k).map Prod.snd } ((Z.take k).map incZ ++ Z.drop k) vW (.slice aO Z.length cO))) (fun i _ => Z.length - (intOf i).toNat)
      case atStart =>
        refine ⟨0, Nat.zero_le _, rfl, ((chg0 HB.out) : Chg F w wo), rfl, ?_⟩
        have e : ({ s with L := ((Z.take 0).map incZ ++ Z.drop 0).map Prod.snd } : Sd) = s := by
          have e2 : ((Z.take 0).map incZ ++ Z.drop 0).map Prod.snd = s.L := HPZ.out.zl.symm
          rw [e2]
        rw [e]
        exact HR.out
      case round =>
        obtain ⟨k, hk, rfl, HC, HS, HP⟩ := hrel
        by_cases hlt : k < Z.length
        · obtain ⟨z, hz⟩ : ∃ z, Z[k]? = some z := ⟨_, List.getElem?_eq_getElem hlt⟩
          obtain ⟨q1, q2⟩ := inc_at hz
          obtain ⟨q3, q4⟩ := inc_step hz
          obtain ⟨g, off, rfl, p0, hs, p2, pf, -⟩ := HP.out.pt q2.symm q1
          have ht := HOK.out.sent z.2 (by rw [HPZ.out.zl]; exact List.mem_map.2 ⟨z, List.mem_of_getElem? hz, rfl⟩)
          have ht2 := HOK.out.tries
          have hP := HP.out
          rw [q3] at hP
          obtain ⟨p, ⟨n, ys⟩, t⟩ := z
          have hts := hP.tset (t + 1)
          simp only at p0 p2 pf ht
          have hw : IntKind.i64.wrap (t + 1) = t + 1 := by rw [IntKind.wrap_i64]; omega
          have CA := Lib.hid (sadd_any p 2 t 1 wr p2 pf hw)
          have HTS := Lib.hid hts
          have HFP := Lib.hid hs.f
          have HQ4 := Lib.hid q4
          have hltz : (k : Int) < Z.length := by omega
          clear q1 q2 q3 q4 p2 pf hs hP hts ht ht2 hw hz
          go_wp2_with fail
          refine CA.out.mono ?_
          rintro e w9 ⟨rfl, hw9⟩
          have HC9 : Hid (Chg F w w9) := hw9 ▸ HC.out.setCell (.inl HFP.out) _
          have HS9 : Hid (w9.heap.size = wo.heap.size) := by show _ = _; rw [hw9, ← HS.out]; simp [World.setCell]
          have HP9 : Hid (PZ w9 F b { s with L := ((Z.take (k + 1)).map incZ ++ Z.drop (k + 1)).map Prod.snd } ((Z.take (k + 1)).map incZ ++ Z.drop (k + 1)) vW (.slice (some ⟨g, off, none⟩) Z.length cO)) := by
            show PZ _ _ _ _ _ _ _
            rw [HQ4.out, hw9]
            exact HTS.out
          clear p0 hw9
          go_wp2_with fail
          go_roundw
          case rel => exact ⟨k + 1, by omega, by go_num, HC9.out, HS9.out, HP9.out⟩
          case measure => simp [intOf]; omega
        · obtain rfl : k = Z.length := by omega
          have e1 : (Z.take Z.length).map incZ ++ Z.drop Z.length = Z.map incZ := by simp
          have hP := HP.out
          rw [e1, agS_map hag.out HPZ.out.zl] at hP
          have CO := Lib.hid (pout_any hP (sdok_again HOK.out))
          have HPF := Lib.hid hP
          have hao : agL s = (agS s).out := by unfold agL; rw [if_pos hag.out, out_again]
          have HAO := Lib.hid hao
          clear e1 hP HP hao
          go_wp2_with fail
          refine CO.out.mono ?_
          rintro e w9 ⟨⟨a1, c1, rfl, ho⟩, hb⟩
          have HO := Lib.hid ho
          have HB9 := Lib.hid hb
          clear ho hb
          go_wp2_with fail
          go_ret2
          rw [hag.out, HAO.out]
          refine ⟨_, rfl, HC.out.trans (G := fun _ => False) (chg0 HB9.out) (fun _ _ e => e.elim), ⟨_, HPF.out.below HB9.out⟩, ?_⟩
          obtain ⟨vs, k1, k2, k3⟩ := HO.out
          have hsz : w.heap.size ≤ wr.heap.size := HC.out.size
          exact ⟨vs, k1, gown_mono k2 hsz, fun i hi => ⟨(k3 i hi).1, gown_mono (k3 i hi).2 hsz⟩⟩
end
end Go.Proofs.YtfiaghfaijlfjaaGreat

namespace Go.Proofs.YtfiaghfaijlfjaaGreat
set_option maxRecDepth 100000
set_option linter.unusedVariables false
open Go.RowKit

set_option maxHeartbeats 4000000 in
theorem gotc_any (g0 p : Nat) (i q x m n : Int) (w : World) (ha : Cells4a w g0 0 (i, q, x, m)) (hp : w.cell? ⟨p, 0, none⟩ = some (.int .i64 n)) :
    Calls Tryz.prog 47 #[ptr p, .pointer (some ⟨g0, 0, none⟩)] w fun e w' => e = .returned (.bool (decide (AkOne (i, q, x, m)) && hasN x m n)) ∧ Below w.heap.size w w' := by
  have hpl := World.block_lt_of_cell? w _ hp
  have kc : ∀ w', Below w.heap.size w w' → (w'.cell? ⟨g0, 0, none⟩ = some (.int .i64 i) ∧ w'.cell? ⟨g0, 1, none⟩ = some (.int .i64 q) ∧ w'.cell? ⟨g0, 2, none⟩ = some (.int .i64 x) ∧ w'.cell? ⟨g0, 3, none⟩ = some (.int .i64 m)) ∧ w'.cell? ⟨p, 0, none⟩ = some (.int .i64 n) := fun w' h => by
    have h4 := ha.below h
    simp only [Cells4a, Nat.zero_add] at h4
    exact ⟨h4, (h.cell (p := ⟨p, 0, none⟩) hpl).trans hp⟩
  clear ha hp hpl
  go_enter Tryz.func47, Tryz.ntmps47
  go_upto_region 1 with (fail)
  refine T3.wp_region_tail (C := fun w' => Below w.heap.size w w') (X := fun _ w w' => Below w.heap.size w w') (n := 11) 7 (by kernel_rfl) (by kernel_rfl) (by kernel_rfl) (by kernel_rfl) rfl (fun _ w => Below.refl _ w) (Below.refl _ _).drew ?_
  simp only [List.take_succ_cons, List.take_zero, List.drop_succ_cons, List.drop_zero]
  refine T3.w_is (fun _ w => Below.refl _ w) rfl _ (.inl rfl) (fun ρ w hC hc hfn hf => by have e1 : ρ (.tmp 1) = _ := hf 1 (by decide); (conv => lhs; simp [execOp, go_sem, hc, e1, kc w hC])) ?_
  refine T3.w_is (fun _ w => Below.refl _ w) rfl _ (.inl rfl) (fun ρ w hC hc hfn hf => by have e0 : ρ (.tmp 0) = _ := hf 0 (by decide); (conv => lhs; simp [execOp, go_sem, hc, e0])) ?_
  refine T3.w_is (fun _ w => Below.refl _ w) rfl _ (.inl rfl) (fun ρ w hC hc hfn hf => by have e5 : ρ (.tmp 5) = _ := hf 5 (by decide); (conv => lhs; simp [execOp, go_sem, hc, e5])) ?_
  refine T3.w_is (fun _ w => Below.refl _ w) rfl _ (.inl rfl) (fun ρ w hC hc hfn hf => by have e6 : ρ (.tmp 6) = _ := hf 6 (by decide); (conv => lhs; simp [execOp, go_sem, hc, e6])) ?_
  refine T3.w_is (fun _ w => Below.refl _ w) rfl _ (.inl rfl) (fun ρ w hC hc hfn hf => by have e7 : ρ (.tmp 7) = _ := hf 7 (by decide); (conv => lhs; simp [execOp, go_sem, hc, e7])) ?_
  refine T3.w_is (fun _ w => Below.refl _ w) rfl _ (.inl rfl) (fun ρ w hC hc hfn hf => by have e8 : ρ (.tmp 8) = _ := hf 8 (by decide); (conv => lhs; simp [execOp, go_sem, hc, e8, kc w hC])) ?_
  refine T3.w_call rfl (Is _) (fun _ _ _ _ _ h _ => h) 48 (.inl rfl) (fun ρ w hC hc hfn hf => by have e4 : ρ (.tmp 4) = _ := hf 4 (by decide); have e9 : ρ (.tmp 9) = _ := hf 9 (by decide); exact ⟨_, by (conv => lhs; simp [execOp, resolve, invoke, go_sem, hc, hfn, e4, e9]), (has_fix i q x m n w).mono fun e w' h => ⟨_, h.1, hC.trans (h.2.mono hC.size), h.2, rfl⟩⟩) ?_
  intro A V5 hC hn hd hf
  have y0 : A.eval (.tmp 0) = _ := Eq.trans (hf 0) (by conv => lhs; simp [go_sem])
  have y1 : A.eval (.tmp 1) = _ := Eq.trans (hf 1) (by conv => lhs; simp [go_sem])
  have y2 : A.eval (.tmp 2) = _ := Eq.trans (hf 2) (by conv => lhs; simp [go_sem])
  have y3 : A.eval (.tmp 3) = _ := Eq.trans (hf 3) (by conv => lhs; simp [go_sem])
  have y4 : A.eval (.tmp 4) = _ := hf 4
  have y5 : A.eval (.tmp 5) = _ := hf 5
  have y6 : A.eval (.tmp 6) = _ := hf 6
  have y7 : A.eval (.tmp 7) = _ := hf 7
  have y8 : A.eval (.tmp 8) = _ := hf 8
  have y9 : A.eval (.tmp 9) = _ := hf 9
  have y10 : A.eval (.tmp 10) = _ := hf 10
  clear hf
  have hA := frame_eq hn
  rw [show List.range 11 = [0, 1, 2, 3, 4, 5, 6, 7, 8, 9, 10] from rfl, hd] at hA
  simp only [List.map_cons, List.map_nil, y0, y1, y2, y3, y4, y5, y6, y7, y8, y9, y10] at hA
  clear y0 y1 y2 y3 y4 y5 y6 y7 y8 y9 y10
  clear hn hd
  subst hA
  have HC := Lib.hid hC
  clear kc hC
  go_wp2_with fail
  go_ret
  exact ⟨rfl, HC.out⟩
/-- What a closure tells of what lies at the pointers of Z, in whatever world in which only the row has turned. -/
def Tells (g0 g : Nat) (hit : Nat × Bt × Int → Bool) (Z : Zs1) (w0 : World) : Prop := ∀ z ∈ Z, ∀ W, Chg (fun k => k = g) w0 W → Calls Tryz.prog 47 #[ptr z.1, .pointer (some ⟨g0, 0, none⟩)] W fun e W' => e = .returned (.bool (hit z)) ∧ Below W.heap.size W W'
theorem row_pt {w : World} {g cap n : Nat} {ps : List Nat} (h : OwP w (.slice (some ⟨g, 0, none⟩) n cap) ps) {k p : Nat} (hk : ps[k]? = some p) : w.cell? ⟨g, k, none⟩ = some (ptr p) ∧ w.frozen? ⟨g, k, none⟩ = false := by
  obtain ⟨hk', rfl⟩ := List.getElem?_eq_some_iff.1 hk
  have hn : n = ps.length := by
    obtain ⟨a, c, e⟩ := own_form h
    simp only [Value.slice.injEq] at e
    exact e.2.1
  subst hn
  have h' : OwP w (.slice (some ⟨g, 0, none⟩) ps.length cap) ps := h
  obtain ⟨b, off, h1, h2, h3⟩ := pt_at (Gs_of_own (R := RPT) h').1 (i := k) hk'
  simp only [Option.some.injEq, Addr.mk.injEq, and_true] at h1
  obtain ⟨rfl, rfl⟩ := h1
  rw [Nat.zero_add] at h3
  have e : ps.getD k 0 = ps[k] := by simp [List.getD, hk']
  rw [e] at h3
  exact ⟨h3, World.ownsRow.frozenAt h k⟩
set_option maxHeartbeats 8000000 in
theorem idxf_any (g0 g cap : Nat) (hit : Nat × Bt × Int → Bool) (Z : Zs1) (w0 w : World) (hT : Tells g0 g hit Z w0) (hc : Chg (fun k => k = g) w0 w) (h : OwP w (.slice (some ⟨g, 0, none⟩) Z.length cap) (Z.map Prod.fst)) (hl : Z.length ≤ 1000) :
    Calls Tryz.prog 75 #[.slice (some ⟨g, 0, none⟩) Z.length cap, .func (.func 47) #[] #[.pointer (some ⟨g0, 0, none⟩)]] w fun e w' => ((∃ (k : Nat) (z : Nat × Bt × Int), Z[k]? = some z ∧ hit z = true ∧ (∀ (i : Nat) (y : Nat × Bt × Int), i < k → Z[i]? = some y → hit y = false) ∧ e = .returned (.int .i64 k)) ∨ ((∀ (i : Nat) (y : Nat × Bt × Int), Z[i]? = some y → hit y = false) ∧ e = .returned (.int .i64 (-1)))) ∧ Below w.heap.size w w' := by
  have HT := Lib.hid hT
  have HC := Lib.hid hc
  have HO := Lib.hid h
  clear hT hc h
  go_enter Tryz.func75, Tryz.ntmps75
  go_wp2_with fail
  go_loopw [8] (fun iv wr => ∃ k : Nat, k ≤ Z.length ∧ iv = .int .i64 k ∧ Hid (Below w.heap.size w wr) ∧ Hid (∀ (i : Nat) (y : Nat × Bt × Int), i < k → Z[i]? = some y → hit y = false)) (fun i _ => Z.length - (intOf i).toNat)
  case atStart => exact ⟨0, Nat.zero_le _, rfl, Below.refl _ _, fun i z hi => absurd hi (Nat.not_lt_zero i)⟩
  case round =>
    obtain ⟨k, hk, rfl, HB, HN⟩ := hrel
    by_cases hlt : k < Z.length
    · obtain ⟨z, hz⟩ : ∃ z, Z[k]? = some z := ⟨_, List.getElem?_eq_getElem hlt⟩
      have ho : OwP wr (.slice (some ⟨g, 0, none⟩) Z.length cap) (Z.map Prod.fst) := gown_below HO.out HB.out
      obtain ⟨p0, pf⟩ := row_pt ho (k := k) (p := z.1) (by rw [List.getElem?_map, hz]; rfl)
      have C1 := Lib.hid (HT.out z (List.mem_of_getElem? hz) wr (HC.out.trans (G := fun _ => False) (chg0 HB.out) (fun _ _ e => e.elim)))
      have HZ := Lib.hid hz
      have hltz : (k : Int) < Z.length := by omega
      obtain ⟨p, hp⟩ : ∃ p, z.1 = p := ⟨_, rfl⟩
      rw [hp] at p0 C1
      clear ho pf hz hp
      go_wp2_with fail
      refine C1.out.mono ?_
      rintro e w9 ⟨rfl, hb⟩
      have HB9 := Lib.hid (HB.out.trans (hb.mono HB.out.size))
      clear p0 hb
      cases hh : hit z with
      | true =>
        have HH := Lib.hid hh
        clear hh
        go_wp2_with fail
        go_ret
        exact ⟨.inl ⟨k, z, HZ.out, HH.out, HN.out, rfl⟩, HB9.out⟩
      | false =>
        have HH := Lib.hid hh
        clear hh
        go_wp2_with fail
        go_roundw
        case rel => exact ⟨k + 1, by omega, by go_num, HB9.out, fun i y hi hy => by
          by_cases h9 : i = k
          · subst h9
            have e := hy.symm.trans HZ.out
            cases e
            exact HH.out
          · exact HN.out i y (by omega) hy⟩
        case measure => simp [intOf]; omega
    · obtain rfl : k = Z.length := by omega
      go_wp2_with fail
      go_ret
      exact ⟨.inr ⟨fun i y hy => HN.out i y (List.getElem?_eq_some_iff.1 hy).1 hy, rfl⟩, HB.out⟩
end Go.Proofs.YtfiaghfaijlfjaaGreat

namespace Go.Proofs.YtfiaghfaijlfjaaGreat
set_option maxRecDepth 100000
set_option linter.unusedVariables false
open Go.RowKit

theorem gpt (ps : List Nat) : gflat RPT ps = ps.map ptr := by
  unfold gflat
  induction ps with
  | nil => rfl
  | cons p ps ih => exact congrArg (List.cons (ptr p)) ih
/-- The row as it stands while some are taken out: the first a are those kept of the first j, those behind j are as they were. -/
structure Mid (hit : Nat × Bt × Int → Bool) (Z : Zs1) (a j : Nat) (R : List Nat) : Prop where
  lt : a < j
  le : j ≤ Z.length
  len : R.length = Z.length
  cnt : a = ((Z.take j).filter fun z => !hit z).length
  head : R.take a = ((Z.take j).filter fun z => !hit z).map Prod.fst
  tail : R.drop j = (Z.drop j).map Prod.fst
theorem filt_all {hit : Nat × Bt × Int → Bool} {Z : Zs1} {k : Nat} (hn : ∀ (i : Nat) (y : Nat × Bt × Int), i < k → Z[i]? = some y → hit y = false) : (Z.take k).filter (fun z => !hit z) = Z.take k := by
  rw [List.filter_eq_self]
  intro y hy
  obtain ⟨i, hi, rfl⟩ := List.mem_iff_getElem.1 hy
  rw [List.length_take] at hi
  have := hn i Z[i] (by omega) (List.getElem?_eq_getElem (by omega))
  rw [List.getElem_take, this]
  rfl
theorem take_one {Z : Zs1} {j : Nat} {z : Nat × Bt × Int} (hz : Z[j]? = some z) : Z.take (j + 1) = Z.take j ++ [z] := by
  obtain ⟨hk, rfl⟩ := List.getElem?_eq_some_iff.1 hz
  rw [List.take_succ_eq_append_getElem hk]
theorem mid_start {hit : Nat × Bt × Int → Bool} {Z : Zs1} {k : Nat} {z : Nat × Bt × Int} (hz : Z[k]? = some z) (hh : hit z = true) (hn : ∀ (i : Nat) (y : Nat × Bt × Int), i < k → Z[i]? = some y → hit y = false) : Mid hit Z k (k + 1) (Z.map Prod.fst) := by
  have hk := (List.getElem?_eq_some_iff.1 hz).1
  have e : (Z.take (k + 1)).filter (fun z => !hit z) = Z.take k := by rw [take_one hz, List.filter_append, filt_all hn, List.filter_cons]; simp [hh]
  refine ⟨Nat.lt_succ_self k, hk, List.length_map .., ?_, ?_, ?_⟩
  · rw [e, List.length_take]; omega
  · rw [e, List.map_take]
  · rw [List.map_drop]
theorem Mid.at {hit : Nat × Bt × Int → Bool} {Z : Zs1} {a j : Nat} {R : List Nat} (h : Mid hit Z a j R) {z : Nat × Bt × Int} (hz : Z[j]? = some z) : R[j]? = some z.1 := by
  have e : R[j]? = (R.drop j)[0]? := by rw [List.getElem?_drop, Nat.add_zero]
  rw [e, h.tail, List.getElem?_map, List.getElem?_drop, Nat.add_zero, hz]
  rfl
theorem drop_one' (R : List Nat) (j : Nat) : R.drop (j + 1) = (R.drop j).drop 1 := by rw [List.drop_drop]
theorem Mid.hit {hit : Nat × Bt × Int → Bool} {Z : Zs1} {a j : Nat} {R : List Nat} (h : Mid hit Z a j R) {z : Nat × Bt × Int} (hz : Z[j]? = some z) (hh : hit z = true) : Mid hit Z a (j + 1) R := by
  have hk := (List.getElem?_eq_some_iff.1 hz).1
  have e : (Z.take (j + 1)).filter (fun z => !hit z) = (Z.take j).filter (fun z => !hit z) := by rw [take_one hz, List.filter_append, List.filter_cons]; simp [hh]
  exact ⟨by have := h.lt; omega, hk, h.len, by rw [e]; exact h.cnt, by rw [e]; exact h.head, by rw [drop_one', h.tail, ← List.map_drop, List.drop_drop]⟩
theorem Mid.keep {hit : Nat × Bt × Int → Bool} {Z : Zs1} {a j : Nat} {R : List Nat} (h : Mid hit Z a j R) {z : Nat × Bt × Int} (hz : Z[j]? = some z) (hh : hit z = false) : Mid hit Z (a + 1) (j + 1) (R.set a z.1) := by
  have hk := (List.getElem?_eq_some_iff.1 hz).1
  have hlt := h.lt
  have hlen := h.len
  have e : (Z.take (j + 1)).filter (fun z => !hit z) = (Z.take j).filter (fun z => !hit z) ++ [z] := by rw [take_one hz, List.filter_append, List.filter_cons]; simp [hh]
  refine ⟨by omega, hk, by rw [List.length_set]; exact h.len, by rw [e, List.length_append, ← h.cnt]; rfl, ?_, ?_⟩
  · rw [e, List.map_append, ← h.head, List.take_succ_eq_append_getElem (by rw [List.length_set]; omega), List.take_set, List.set_eq_of_length_le (by rw [List.length_take]; omega)]
    simp
  · rw [List.drop_set_of_lt (by omega), drop_one', h.tail, ← List.map_drop, List.drop_drop]
theorem OwP.set {w : World} {g cap n a : Nat} {R : List Nat} (h : OwP w (.slice (some ⟨g, 0, none⟩) n cap) R) (p : Nat) : OwP (w.setCell ⟨g, a, none⟩ (ptr p)) (.slice (some ⟨g, 0, none⟩) n cap) (R.set a p) := by
  unfold OwP at h ⊢
  have hn : n = R.length := by
    obtain ⟨a, c, e⟩ := own_form h
    simp only [Value.slice.injEq] at e
    exact e.2.1
  subst hn
  have := (World.ownsRow.stored h a (ptr p)).1
  rw [gpt, List.length_set]
  rw [gpt] at this
  rw [List.map_set]
  exact this
set_option maxHeartbeats 8000000 in
theorem delf_any (g0 g cap : Nat) (hit : Nat × Bt × Int → Bool) (Z : Zs1) (w : World) (hT : Tells g0 g hit Z w) (h : OwP w (.slice (some ⟨g, 0, none⟩) Z.length cap) (Z.map Prod.fst)) (hl : Z.length ≤ 1000) :
    Calls Tryz.prog 46 #[.slice (some ⟨g, 0, none⟩) Z.length cap, .func (.func 47) #[] #[.pointer (some ⟨g0, 0, none⟩)]] w fun e w' => (∃ n, n = (Z.filter fun z => !hit z).length ∧ e = .returned (.slice (some ⟨g, 0, none⟩) n cap) ∧ OwP w' (.slice (some ⟨g, 0, none⟩) n cap) ((Z.filter fun z => !hit z).map Prod.fst)) ∧ Chg (fun k => k = g) w w' := by
  have hcap : Z.length ≤ cap := by
    rcases h.2 with ⟨h1, _⟩ | ⟨g', cap', cur, hv, hb, hg, hnc, hcm, hcs, htake⟩
    · cases h1
    · simp only [Value.slice.injEq] at hv
      rw [List.length_map] at hnc
      omega
  have HT := Lib.hid hT
  have HO := Lib.hid h
  have C1 := Lib.hid (idxf_any g0 g cap hit Z w w hT (Chg.refl _ _) h hl)
  clear hT h
  go_enter Tryz.func46, Tryz.ntmps46
  go_wp2_with fail
  refine C1.out.mono ?_
  rintro e w1 ⟨hcase, hb⟩
  rcases hcase with ⟨k, z, hz, hh, hn, rfl⟩ | ⟨hn, rfl⟩
  · have hm := mid_start hz hh hn
    have HM := Lib.hid hm
    have hk : k < Z.length := (List.getElem?_eq_some_iff.1 hz).1
    have HB := Lib.hid hb
    have hne : ((k : Int) == -1) = false := beq_false_of_ne (by omega)
    clear hz hh hn hm hb C1
    go_wp2_with fail
    go_loopw [5, 6] (fun av jv wr => ∃ (a j : Nat) (R : List Nat), j ≤ Z.length ∧ a < j ∧ av = .int .i64 a ∧ jv = .int .i64 j ∧ Hid (Mid hit Z a j R) ∧ Hid (OwP wr (.slice (some ⟨g, 0, none⟩) Z.length cap) R) ∧ Hid (Chg (fun k => k = g) w wr)) (fun _ j _ => Z.length - (intOf j).toNat)
    case atStart => exact ⟨k, k + 1, _, hk, Nat.lt_succ_self k, rfl, by go_num, HM.out, gown_below HO.out HB.out, chg0 HB.out⟩
    case round =>
      obtain ⟨a, j, R, hj, haj, rfl, rfl, HMD, HR, HC⟩ := hrel
      clear HM HB hne
      by_cases hlt : j < Z.length
      · obtain ⟨z, hz⟩ : ∃ z, Z[j]? = some z := ⟨_, List.getElem?_eq_getElem hlt⟩
        obtain ⟨p0, pf⟩ := row_pt HR.out (HMD.out.at hz)
        have C2 := Lib.hid (HT.out z (List.mem_of_getElem? hz) wr HC.out)
        have HZ := Lib.hid hz
        have hltz : (j : Int) < Z.length := by omega
        obtain ⟨p, hp⟩ : ∃ p, z.1 = p := ⟨_, rfl⟩
        have HP := Lib.hid hp
        rw [hp] at p0 C2
        clear pf hz hp
        go_wp2_with fail
        refine C2.out.mono ?_
        rintro e w9 ⟨rfl, hb9⟩
        have hr9 : OwP w9 (.slice (some ⟨g, 0, none⟩) Z.length cap) R := gown_below HR.out hb9
        have HC9 : Hid (Chg (fun k => k = g) w w9) := HC.out.trans (G := fun _ => False) (chg0 hb9) (fun _ _ e => e.elim)
        have hra : a < R.length := by rw [HMD.out.len]; omega
        obtain ⟨q, hq⟩ : ∃ q, R[a]? = some q := ⟨_, List.getElem?_eq_getElem hra⟩
        obtain ⟨r0, rf⟩ := row_pt hr9 (k := a) (p := q) hq
        have HR9 := Lib.hid hr9
        clear p0 hb9 hr9 hra hq
        cases hh : hit z with
        | true =>
          have HM9 := Lib.hid (HMD.out.hit HZ.out hh)
          clear hh r0 rf
          go_wp2_with fail
          go_roundw
          case rel => exact ⟨a, j + 1, R, by omega, by omega, rfl, by go_num, HM9.out, HR9.out, HC9.out⟩
          case measure => simp [intOf]; omega
        | false =>
          have HM9 := Lib.hid (HMD.out.keep HZ.out hh)
          have HRS := Lib.hid (HR9.out.set (a := a) p)
          have HCS := Lib.hid (HC9.out.setCell (p := ⟨g, a, none⟩) (.inl rfl) (ptr p))
          clear hh
          go_wp2_with fail
          go_roundw
          case rel => exact ⟨a + 1, j + 1, R.set a z.1, by omega, by omega, by go_num, by go_num, HM9.out, by rw [HP.out]; exact HRS.out, HCS.out⟩
          case measure => simp [intOf]; omega
      · obtain rfl : j = Z.length := by omega
        have hm := HMD.out
        have hcn := hm.cnt
        have hhd := hm.head
        rw [List.take_of_length_le (Nat.le_refl _)] at hcn hhd
        have hrl : OwP wr (.slice (some ⟨g, 0, none⟩) R.length cap) R := by rw [hm.len]; exact HR.out
        have hh0 := own_head hrl (m := a) (by have := hm.len; omega)
        have hne2 : ¬ cap = a := by omega
        obtain ⟨w3, hr3, ho3, hg3⟩ := run_clear_own RPT (by decide) wr 0 0 g a (Z.length - a) cap (cap - a) _ hh0 (by omega) (by omega)
        have hr3' : (Builtin.clear_ #[92] 0 #[.slice (some ⟨g, a, none⟩) (Z.length - a) (cap - a)]).run Tryz.prog wr = .ok (.tuple #[]) w3 := by
          have e1 : a * RPT.K = a := Nat.mul_one a
          rw [e1] at hr3
          exact hr3
        have HO3 : Hid (OwP w3 (.slice (some ⟨g, 0, none⟩) a cap) ((Z.filter fun z => !hit z).map Prod.fst)) := by
          show w3.ownsRow 0 97 1 _ (List.map Prod.fst (Z.filter fun z => !hit z)).length _
          rw [gpt, ← hhd, List.length_take, Nat.min_eq_left (by have := hm.len; omega), List.map_take, ← gpt]
          have e1 : a * 1 = a := Nat.mul_one a
          have h9 : w3.ownsRow 0 97 1 (.slice (some ⟨g, 0, none⟩) a cap) a ((gflat RPT R).take (a * 1)) := ho3
          rw [e1] at h9
          exact h9
        have HCF : Hid (Chg (fun k => k = g) w w3) := HC.out.trans ((chg_grown hg3).mono (fun x _ e => by cases e; rfl)) (fun _ _ e => e)
        have HCN := Lib.hid hcn
        clear hm hcn hhd hrl hh0 hr3 ho3 hg3
        go_wp2_with fail
        go_ret
        exact ⟨⟨a, HCN.out, rfl, HO3.out⟩, HCF.out⟩
  · have e : (Z.filter fun z => !hit z) = Z := by
      have h9 := filt_all (k := Z.length) (fun i y _ hy => hn i y hy)
      rw [List.take_of_length_le (Nat.le_refl _)] at h9
      exact h9
    have HB := Lib.hid hb
    have HE := Lib.hid e
    clear hn hb e
    go_wp2_with fail
    go_ret
    exact ⟨⟨_, by rw [HE.out], rfl, by rw [HE.out]; exact gown_below HO.out HB.out⟩, chg0 HB.out⟩
end Go.Proofs.YtfiaghfaijlfjaaGreat

namespace Go.Proofs.YtfiaghfaijlfjaaGreat
set_option maxRecDepth 100000
set_option linter.unusedVariables false
open Go.RowKit

def hitA (a : Ak) (z : Nat × Bt × Int) : Bool := decide (AkOne a) && hasN a.2.2.1 a.2.2.2 z.2.1.1
theorem got_nilL {s : Sd} (a : Ak) (h : s.L = []) : gtS s a = s ∧ gtN s a = 0 := by
  have e : gtS s a = s := by
    unfold gtS
    split
    · rw [h]
      show ({ s with L := [] } : Sd) = s
      rw [← h]
    · rfl
  exact ⟨e, by unfold gtN; rw [e]; omega⟩
theorem got_far {s : Sd} {a : Ak} (h : ¬ far (fstN s) a.2.2.1 ≤ far (fstN s) s.nx) : gtS s a = s ∧ gtN s a = 0 := by
  have e : gtS s a = s := gtS_no (fun g => h g.2)
  exact ⟨e, by unfold gtN; rw [e]; omega⟩
theorem got_near {s : Sd} {a : Ak} {Z : Zs1} (hz : s.L = Z.map Prod.snd) (h : far (fstN s) a.2.2.1 ≤ far (fstN s) s.nx) : gtS s a = { s with L := (Z.filter fun z => !hitA a z).map Prod.snd } ∧ gtN s a = Z.length - (Z.filter fun z => !hitA a z).length := by
  have e : gtS s a = { s with L := (Z.filter fun z => !hitA a z).map Prod.snd } := by
    by_cases ha : AkOne a
    · rw [gtS_yes ⟨ha, h⟩, hz, List.filter_map]
      congr 2
      refine List.filter_congr fun z _ => ?_
      show kpt a z.2 = _
      unfold kpt hitA
      rw [decide_eq_true ha, Bool.true_and]
    · rw [gtS_no (fun g => ha g.1)]
      have e2 : (Z.filter fun z => !hitA a z) = Z := by
        rw [List.filter_eq_self]
        intro z _
        unfold hitA
        rw [decide_eq_false ha]
        rfl
      rw [e2, ← hz]
  refine ⟨e, ?_⟩
  unfold gtN
  rw [e, hz, List.length_map, List.length_map]
section
variable {w : World} {F : Nat → Prop} {b : Nat} {s : Sd} {Z : Zs1} {vW vO : Value}
theorem PZ.first (h : PZ w F b s Z vW vO) {z : Nat × Bt × Int} (hz : Z[0]? = some z) : fstN s = z.2.1.1 := by
  obtain ⟨hk, rfl⟩ := List.getElem?_eq_some_iff.1 hz
  unfold fstN
  rw [h.zl]
  cases Z with
  | nil => exact absurd hk (Nat.not_lt_zero 0)
  | cons z Z => rfl
set_option maxHeartbeats 8000000 in
theorem pgot_any (a1 a2 a3 a4 : Int) (h : PZ w F b s Z vW vO) (hok : SdOk s) : Calls Tryz.prog 20 #[.pointer (some ⟨b, 0, none⟩), .agg #[.int .i64 a1, .int .i64 a2, .int .i64 a3, .int .i64 a4]] w fun e w' => e = .returned (.int .i64 (gtN s (a1, a2, a3, a4))) ∧ Chg F w w' ∧ ∃ F' Z' vO', PZ w' F' b (gtS s (a1, a2, a3, a4)) Z' vW vO' ∧ ∀ k, F' k → F k ∨ w.heap.size ≤ k := by
  obtain ⟨aO, cO, rfl⟩ := h.oform
  have hzl : Z.length ≤ 16 := (h.olen hok).1
  obtain ⟨g0, hg0⟩ : ∃ g0, w.heap.size = g0 := ⟨_, rfl⟩
  obtain ⟨W1, hW1⟩ : ∃ W1, w.alloc (.cells #[.int .i64 a1, .int .i64 a2, .int .i64 a3, .int .i64 a4] 37) = W1 := ⟨_, rfl⟩
  have hb1 : Below w.heap.size w W1 := hW1 ▸ (Below.refl _ w).alloc (Nat.le_refl _) _
  have ha1 : Cells4a W1 g0 0 (a1, a2, a3, a4) := by rw [← hW1, ← hg0]; refine ⟨?_, ?_, ?_, ?_⟩ <;> simp
  have hFp : ∀ k, F k → k < g0 := fun k hk => hg0 ▸ h.lt k hk
  have H1 := Lib.hid (h.below hb1)
  have HW1 := Lib.hid hW1
  have HB1 := Lib.hid hb1
  have HG0 := Lib.hid hg0
  have HA1 := Lib.hid ha1
  have HFP := Lib.hid hFp
  have HSZ : Hid (w.heap.size ≤ W1.heap.size) := hb1.size
  clear hW1 hb1 hg0 ha1 hFp h
  by_cases hnil : Z = []
  · subst hnil
    obtain ⟨e1, e2⟩ := got_nilL (a1, a2, a3, a4) (s := s) H1.out.zl
    have HE1 := Lib.hid e1
    have HE2 := Lib.hid e2
    obtain ⟨c0, c1, c2, c3, c4, cf⟩ := H1.out.cells
    clear e1 e2 c0 c1 c2 c3 cf
    go_enter Tryz.func20, Tryz.ntmps20
    go_upto_region 1 with (fail)
    rw [HW1.out]
    try simp only [HG0.out]
    go_wp2_with fail
    go_ret
    rw [HE1.out, HE2.out]
    exact ⟨rfl, chg0 HB1.out, F, [], _, H1.out, fun k hk => .inl hk⟩
  · obtain ⟨z0, hz0⟩ : ∃ z0, Z[0]? = some z0 := by
      cases Z with
      | nil => exact absurd rfl hnil
      | cons z Z => exact ⟨z, rfl⟩
    have hpos : 0 < Z.length := (List.getElem?_eq_some_iff.1 hz0).1
    obtain ⟨g, cap, hgo⟩ : ∃ g cap, Value.slice aO Z.length cO = .slice (some ⟨g, 0, none⟩) Z.length cap := by
      rcases H1.out.ot.2 with ⟨_, h2⟩ | ⟨g, cap, cur, h2, _⟩
      · rw [List.length_map] at h2; omega
      · rw [List.length_map] at h2; exact ⟨g, cap, h2⟩
    simp only [Value.slice.injEq, true_and] at hgo
    obtain ⟨rfl, rfl⟩ := hgo
    obtain ⟨p0, pf⟩ := row_pt H1.out.ot (k := 0) (p := z0.1) (by rw [List.getElem?_map, hz0]; rfl)
    obtain ⟨x1, x2, hx, -, hs0, -, -, pn⟩ := H1.out.pt rfl hz0
    have hZ0 := hz0
    clear hx x1 x2
    have hf := H1.out.first hz0
    obtain ⟨n0, hn0⟩ : ∃ n0, fstN s = n0 := ⟨_, rfl⟩
    rw [← hf, hn0] at pn
    obtain ⟨q, hq⟩ : ∃ q, z0.1 = q := ⟨_, rfl⟩
    rw [hq] at p0 pn
    obtain ⟨c0, c1, c2, c3, c4, cf⟩ := H1.out.cells
    have HN0 := Lib.hid hn0
    have hb0 : ((Z.length : Int) == 0) = false := beq_false_of_ne (by omega)
    have hltz : (0 : Int) < Z.length := by omega
    obtain ⟨W2, hW2⟩ : ∃ W2, W2 = W1 := ⟨_, rfl⟩
    subst hW2
    have hbl := H1.out.lt b H1.out.fb
    have kc : ∀ w', Below W2.heap.size W2 w' → w'.cell? ⟨g0, 2, none⟩ = some (.int .i64 a3) ∧ w'.cell? ⟨b, 2, none⟩ = some (.int .i64 s.nx) := fun w' h => by
      have h4 := HA1.out.below h
      simp only [Cells4a, Nat.zero_add] at h4
      exact ⟨h4.2.2.1, (h.cell (p := ⟨b, 2, none⟩) hbl).trans c2⟩
    clear c0 c1 c2 c3 cf hnil pf hs0 hf hn0 hq hz0 hZ0 hbl
    go_enter Tryz.func20, Tryz.ntmps20
    go_upto_region 1 with (fail)
    rw [HW1.out]
    try simp only [HG0.out]
    go_upto_region 4 with (fail)
    clear p0 pn c4
    refine T3.wp_region_tail (C := fun w' => Below W2.heap.size W2 w') (X := fun _ w w' => Below w.heap.size w w') (n := 59) 10 (by kernel_rfl) (by kernel_rfl) (by kernel_rfl) (by kernel_rfl) rfl (fun _ w => Below.refl _ w) (Below.refl _ _).drew ?_
    simp only [List.take_succ_cons, List.take_zero, List.drop_succ_cons, List.drop_zero]
    refine T3.w_is (fun _ w => Below.refl _ w) rfl _ (.inl rfl) (fun ρ w hC hc hfn hf => by have e5 : ρ (.tmp 5) = _ := hf 5 (by decide); (conv => lhs; simp [execOp, go_sem, hc, e5])) ?_
    refine T3.w_is (fun _ w => Below.refl _ w) rfl _ (.inl rfl) (fun ρ w hC hc hfn hf => by have e3 : ρ (.tmp 3) = _ := hf 3 (by decide); (conv => lhs; simp [execOp, go_sem, hc, e3])) ?_
    refine T3.w_is (fun _ w => Below.refl _ w) rfl _ (.inl rfl) (fun ρ w hC hc hfn hf => by have e28 : ρ (.tmp 28) = _ := hf 28 (by decide); (conv => lhs; simp [execOp, go_sem, hc, e28, kc w hC])) ?_
    refine T3.w_call rfl (Is _) (fun _ _ _ _ _ h _ => h) 45 (.inl rfl) (fun ρ w hC hc hfn hf => by have e27 : ρ (.tmp 27) = _ := hf 27 (by decide); have e29 : ρ (.tmp 29) = _ := hf 29 (by decide); exact ⟨_, by (conv => lhs; simp [execOp, resolve, invoke, go_sem, hc, hfn, e27, e29]), (far_any n0 a3 w).mono fun e w' h => ⟨_, h.1, hC.trans (h.2.mono hC.size), h.2, rfl⟩⟩) ?_
    refine T3.w_is (fun _ w => Below.refl _ w) rfl _ (.inl rfl) (fun ρ w hC hc hfn hf => by have e5 : ρ (.tmp 5) = _ := hf 5 (by decide); (conv => lhs; simp [execOp, go_sem, hc, e5])) ?_
    refine T3.w_is (fun _ w => Below.refl _ w) rfl _ (.inl rfl) (fun ρ w hC hc hfn hf => by have e0 : ρ (.tmp 0) = _ := hf 0 (by decide); (conv => lhs; simp [execOp, go_sem, hc, e0])) ?_
    refine T3.w_is (fun _ w => Below.refl _ w) rfl _ (.inl rfl) (fun ρ w hC hc hfn hf => by have e32 : ρ (.tmp 32) = _ := hf 32 (by decide); (conv => lhs; simp [execOp, go_sem, hc, e32])) ?_
    refine T3.w_is (fun _ w => Below.refl _ w) rfl _ (.inl rfl) (fun ρ w hC hc hfn hf => by have e33 : ρ (.tmp 33) = _ := hf 33 (by decide); (conv => lhs; simp [execOp, go_sem, hc, e33])) ?_
    refine T3.w_is (fun _ w => Below.refl _ w) rfl _ (.inl rfl) (fun ρ w hC hc hfn hf => by have e34 : ρ (.tmp 34) = _ := hf 34 (by decide); (conv => lhs; simp [execOp, go_sem, hc, e34, kc w hC])) ?_
    refine T3.w_call rfl (Is _) (fun _ _ _ _ _ h _ => h) 45 (.inl rfl) (fun ρ w hC hc hfn hf => by have e31 : ρ (.tmp 31) = _ := hf 31 (by decide); have e35 : ρ (.tmp 35) = _ := hf 35 (by decide); exact ⟨_, by (conv => lhs; simp [execOp, resolve, invoke, go_sem, hc, hfn, e31, e35]), (far_any n0 s.nx w).mono fun e w' h => ⟨_, h.1, hC.trans (h.2.mono hC.size), h.2, rfl⟩⟩) ?_
    intro A V5 hC hn hd hf
    have y0 : A.eval (.tmp 0) = _ := Eq.trans (hf 0) (by conv => lhs; simp [go_sem])
    have y1 : A.eval (.tmp 1) = _ := Eq.trans (hf 1) (by conv => lhs; simp [go_sem])
    have y2 : A.eval (.tmp 2) = _ := Eq.trans (hf 2) (by conv => lhs; simp [go_sem])
    have y3 : A.eval (.tmp 3) = _ := Eq.trans (hf 3) (by conv => lhs; simp [go_sem])
    have y4 : A.eval (.tmp 4) = _ := Eq.trans (hf 4) (by conv => lhs; simp [go_sem])
    have y5 : A.eval (.tmp 5) = _ := Eq.trans (hf 5) (by conv => lhs; simp [go_sem])
    have y6 : A.eval (.tmp 6) = _ := Eq.trans (hf 6) (by conv => lhs; simp [go_sem])
    have y7 : A.eval (.tmp 7) = _ := Eq.trans (hf 7) (by conv => lhs; simp [go_sem])
    have y8 : A.eval (.tmp 8) = _ := Eq.trans (hf 8) (by conv => lhs; simp [go_sem])
    have y9 : A.eval (.tmp 9) = _ := Eq.trans (hf 9) (by conv => lhs; simp [go_sem])
    have y10 : A.eval (.tmp 10) = _ := Eq.trans (hf 10) (by conv => lhs; simp [go_sem])
    have y11 : A.eval (.tmp 11) = _ := Eq.trans (hf 11) (by conv => lhs; simp [go_sem])
    have y12 : A.eval (.tmp 12) = _ := Eq.trans (hf 12) (by conv => lhs; simp [go_sem])
    have y13 : A.eval (.tmp 13) = _ := Eq.trans (hf 13) (by conv => lhs; simp [go_sem])
    have y14 : A.eval (.tmp 14) = _ := Eq.trans (hf 14) (by conv => lhs; simp [go_sem])
    have y15 : A.eval (.tmp 15) = _ := Eq.trans (hf 15) (by conv => lhs; simp [go_sem])
    have y16 : A.eval (.tmp 16) = _ := Eq.trans (hf 16) (by conv => lhs; simp [go_sem])
    have y17 : A.eval (.tmp 17) = _ := Eq.trans (hf 17) (by conv => lhs; simp [go_sem])
    have y18 : A.eval (.tmp 18) = _ := Eq.trans (hf 18) (by conv => lhs; simp [go_sem])
    have y19 : A.eval (.tmp 19) = _ := Eq.trans (hf 19) (by conv => lhs; simp [go_sem])
    have y20 : A.eval (.tmp 20) = _ := Eq.trans (hf 20) (by conv => lhs; simp [go_sem])
    have y21 : A.eval (.tmp 21) = _ := Eq.trans (hf 21) (by conv => lhs; simp [go_sem])
    have y22 : A.eval (.tmp 22) = _ := Eq.trans (hf 22) (by conv => lhs; simp [go_sem])
    have y23 : A.eval (.tmp 23) = _ := Eq.trans (hf 23) (by conv => lhs; simp [go_sem])
    have y24 : A.eval (.tmp 24) = _ := Eq.trans (hf 24) (by conv => lhs; simp [go_sem])
    have y25 : A.eval (.tmp 25) = _ := Eq.trans (hf 25) (by conv => lhs; simp [go_sem])
    have y26 : A.eval (.tmp 26) = _ := Eq.trans (hf 26) (by conv => lhs; simp [go_sem])
    have y27 : A.eval (.tmp 27) = _ := hf 27
    have y28 : A.eval (.tmp 28) = _ := hf 28
    have y29 : A.eval (.tmp 29) = _ := hf 29
    have y30 : A.eval (.tmp 30) = _ := hf 30
    have y31 : A.eval (.tmp 31) = _ := hf 31
    have y32 : A.eval (.tmp 32) = _ := hf 32
    have y33 : A.eval (.tmp 33) = _ := hf 33
    have y34 : A.eval (.tmp 34) = _ := hf 34
    have y35 : A.eval (.tmp 35) = _ := hf 35
    have y36 : A.eval (.tmp 36) = _ := hf 36
    have y37 : A.eval (.tmp 37) = _ := Eq.trans (hf 37) (by conv => lhs; simp [go_sem])
    have y38 : A.eval (.tmp 38) = _ := Eq.trans (hf 38) (by conv => lhs; simp [go_sem])
    have y39 : A.eval (.tmp 39) = _ := Eq.trans (hf 39) (by conv => lhs; simp [go_sem])
    have y40 : A.eval (.tmp 40) = _ := Eq.trans (hf 40) (by conv => lhs; simp [go_sem])
    have y41 : A.eval (.tmp 41) = _ := Eq.trans (hf 41) (by conv => lhs; simp [go_sem])
    have y42 : A.eval (.tmp 42) = _ := Eq.trans (hf 42) (by conv => lhs; simp [go_sem])
    have y43 : A.eval (.tmp 43) = _ := Eq.trans (hf 43) (by conv => lhs; simp [go_sem])
    have y44 : A.eval (.tmp 44) = _ := Eq.trans (hf 44) (by conv => lhs; simp [go_sem])
    have y45 : A.eval (.tmp 45) = _ := Eq.trans (hf 45) (by conv => lhs; simp [go_sem])
    have y46 : A.eval (.tmp 46) = _ := Eq.trans (hf 46) (by conv => lhs; simp [go_sem])
    have y47 : A.eval (.tmp 47) = _ := Eq.trans (hf 47) (by conv => lhs; simp [go_sem])
    have y48 : A.eval (.tmp 48) = _ := Eq.trans (hf 48) (by conv => lhs; simp [go_sem])
    have y49 : A.eval (.tmp 49) = _ := Eq.trans (hf 49) (by conv => lhs; simp [go_sem])
    have y50 : A.eval (.tmp 50) = _ := Eq.trans (hf 50) (by conv => lhs; simp [go_sem])
    have y51 : A.eval (.tmp 51) = _ := Eq.trans (hf 51) (by conv => lhs; simp [go_sem])
    have y52 : A.eval (.tmp 52) = _ := Eq.trans (hf 52) (by conv => lhs; simp [go_sem])
    have y53 : A.eval (.tmp 53) = _ := Eq.trans (hf 53) (by conv => lhs; simp [go_sem])
    have y54 : A.eval (.tmp 54) = _ := Eq.trans (hf 54) (by conv => lhs; simp [go_sem])
    have y55 : A.eval (.tmp 55) = _ := Eq.trans (hf 55) (by conv => lhs; simp [go_sem])
    have y56 : A.eval (.tmp 56) = _ := Eq.trans (hf 56) (by conv => lhs; simp [go_sem])
    have y57 : A.eval (.tmp 57) = _ := Eq.trans (hf 57) (by conv => lhs; simp [go_sem])
    have y58 : A.eval (.tmp 58) = _ := Eq.trans (hf 58) (by conv => lhs; simp [go_sem])
    clear hf
    have hA := frame_eq hn
    rw [show List.range 59 = [0, 1, 2, 3, 4, 5, 6, 7, 8, 9, 10, 11, 12, 13, 14, 15, 16, 17, 18, 19, 20, 21, 22, 23, 24, 25, 26, 27, 28, 29, 30, 31, 32, 33, 34, 35, 36, 37, 38, 39, 40, 41, 42, 43, 44, 45, 46, 47, 48, 49, 50, 51, 52, 53, 54, 55, 56, 57, 58] from rfl, hd] at hA
    simp only [List.map_cons, List.map_nil, y0, y1, y2, y3, y4, y5, y6, y7, y8, y9, y10, y11, y12, y13, y14, y15, y16, y17, y18, y19, y20, y21, y22, y23, y24, y25, y26, y27, y28, y29, y30, y31, y32, y33, y34, y35, y36, y37, y38, y39, y40, y41, y42, y43, y44, y45, y46, y47, y48, y49, y50, y51, y52, y53, y54, y55, y56, y57, y58] at hA
    clear y0 y1 y2 y3 y4 y5 y6 y7 y8 y9 y10 y11 y12 y13 y14 y15 y16 y17 y18 y19 y20 y21 y22 y23 y24 y25 y26 y27 y28 y29 y30 y31 y32 y33 y34 y35 y36 y37 y38 y39 y40 y41 y42 y43 y44 y45 y46 y47 y48 y49 y50 y51 y52 y53 y54 y55 y56 y57 y58
    clear hn hd
    subst hA
    have HC5 := Lib.hid hC
    clear kc hC
    by_cases hgt : far n0 s.nx < far n0 a3
    · obtain ⟨e1, e2⟩ := got_far (s := s) (a := (a1, a2, a3, a4)) (by rw [HN0.out]; show ¬ far n0 a3 ≤ far n0 s.nx; omega)
      have HE1 := Lib.hid e1
      have HE2 := Lib.hid e2
      have hd : decide (far n0 s.nx < far n0 a3) = true := decide_eq_true hgt
      clear e1 e2
      go_wp2_with fail
      go_ret
      rw [HE1.out, HE2.out]
      exact ⟨rfl, chg0 (HB1.out.trans (HC5.out.mono HSZ.out)), F, Z, _, H1.out.below HC5.out, fun k hk => .inl hk⟩
    · obtain ⟨e1, e2⟩ := got_near (s := s) (a := (a1, a2, a3, a4)) H1.out.zl (by rw [HN0.out]; show far n0 a3 ≤ far n0 s.nx; omega)
      have HE1 := Lib.hid e1
      have HE2 := Lib.hid e2
      have hd : decide (far n0 s.nx < far n0 a3) = false := decide_eq_false hgt
      have h5 := H1.out.below HC5.out
      have ha5 := HA1.out.below HC5.out
      obtain ⟨c0, c1, c2, c3, c4, cf⟩ := h5.cells
      have H5 := Lib.hid h5
      have hgF : F g := h5.of g rfl
      have hgb : g ≠ b := (own_blk h5.ot rfl).ne h5.bt (by decide)
      have hT : Tells g0 g (hitA (a1, a2, a3, a4)) Z V5 := fun z hz W hc => by
        have hs := h5.snd z hz
        obtain ⟨u, h6, h7⟩ := hs.cell
        have hne : z.1 ≠ g := hs.blk.ne (own_blk h5.ot rfl) (by decide)
        have h8 : W.cell? ⟨z.1, 0, none⟩ = some (.int .i64 z.2.1.1) := by
          rw [World.cell?_of_block (hc.block z.1 (some_lt h6) hne)]
          simp [World.cell?, h6]
        have hg9 : g0 < V5.heap.size := World.block_lt_of_cell? V5 _ ha5.1
        have h9 : Cells4a W g0 0 (a1, a2, a3, a4) := by
          have f : ∀ {j : Nat} {v : Value}, V5.cell? ⟨g0, j, none⟩ = some v → W.cell? ⟨g0, j, none⟩ = some v := fun h => (hc.cell hg9 (fun e => by have := HFP.out g hgF; have e' : g0 = g := e; omega)).trans h
          obtain ⟨x0, x1, x2, x3⟩ := ha5
          exact ⟨f x0, f x1, f x2, f x3⟩
        exact gotc_any g0 z.1 a1 a2 a3 a4 z.2.1.1 W h9 h8
      have C7 := Lib.hid (delf_any g0 g cO (hitA (a1, a2, a3, a4)) Z V5 hT h5.ot (by omega))
      have hzl2 : (Z.filter fun z => !hitA (a1, a2, a3, a4) z).length ≤ Z.length := List.length_filter_le _ _
      have HGB := Lib.hid hgb
      have HGF := Lib.hid hgF
      clear e1 e2 c0 c1 c2 c3 h5 ha5 hT hgF hgb hgt
      go_wp2_with fail
      refine C7.out.mono ?_
      rintro e W7 ⟨⟨n, hn, rfl, ho⟩, hc⟩
      have hc7 : Chg (fun k => (Value.slice (some ⟨g, 0, none⟩) Z.length cO).ownBlock = some k) V5 W7 := hc.mono (fun x _ e => by rw [e]; rfl)
      have hp7 : W7.heap[b]? = some (.cells #[.int .i64 s.win, .int .i64 s.tries, .int .i64 s.nx, vW, .slice (some ⟨g, 0, none⟩) Z.length cO] 94) := (hc.block b (H5.out.lt b H5.out.fb) (fun e => HGB.out e.symm)).trans H5.out.hp
      have h8 := H5.out.oset hc7 (vO' := .slice (some ⟨g, 0, none⟩) n cO) (Z' := Z.filter fun z => !hitA (a1, a2, a3, a4) z) ho (fun g2 hg2 => .inl hg2) (H5.out.nd.sublist (List.filter_sublist.map _)) (fun z hz => H5.out.snd z (List.mem_filter.1 hz).1)
      have hcg : Chg F w (W7.setCell ⟨b, 4, none⟩ (.slice (some ⟨g, 0, none⟩) n cO)) := ((chg0 (HB1.out.trans (HC5.out.mono HSZ.out)) : Chg F w V5).trans (hc7.mono (fun x _ e => by cases e; exact HGF.out)) (fun _ _ e => e)).setCell (.inl H5.out.fb) _
      have c4' : W7.cell? ⟨b, 4, none⟩ = some (.slice (some ⟨g, 0, none⟩) Z.length cO) := by simp [World.cell?, hp7]
      have cf' : ∀ j, W7.frozen? ⟨b, j, none⟩ = false := fun j => by simp [World.frozen?, hp7]
      have HS8 : Hid (w.heap.size ≤ V5.heap.size) := (HB1.out.trans (HC5.out.mono HSZ.out)).size
      rw [← hn] at hzl2 HE2
      have HGN : Hid (((Z.length - n : Nat) : Int) = (Z.length : Int) - n) := by show _ = _; omega
      have H8 := Lib.hid h8
      have HCG := Lib.hid hcg
      have HNN := Lib.hid hn
      have hnn : n ≤ 16 := by omega
      clear c4 cf hc hc7 hp7 h8 hcg hn ho
      go_wp2_with fail
      go_ret
      rw [HE1.out, HE2.out, HGN.out]
      refine ⟨by go_num, HCG.out, _, _, _, H8.out, fun k hk => hk.imp (fun h => h) (fun h => Nat.le_trans HS8.out h.1)⟩
end
end Go.Proofs.YtfiaghfaijlfjaaGreat

namespace Go.Proofs.YtfiaghfaijlfjaaGreat
set_option maxRecDepth 100000
set_option linter.unusedVariables false
open Go.RowKit

theorem RowB.mono0 {w : World} {S S' : Nat} {v : Value} {bs : List Bt} (h : RowB w S v bs) (hS : S' ≤ S) : RowB w S' v bs := by
  obtain ⟨vs, k1, k2, k3⟩ := h
  exact ⟨vs, k1, gown_mono k2 hS, fun i hi => ⟨(k3 i hi).1, gown_mono (k3 i hi).2 hS⟩⟩
theorem ppack2 (v : Value) (ys : List Ob) (first : Int) (w : World) (hy : Os w v ys) (hok : AllOk ys) (hl : ys.length ≤ 1024) :
    Calls Tryz.prog 39 #[v, .int .i64 first, .int .i64 512] w fun e w' => ∃ a c, e = .returned (.tuple #[.slice a (packL 512 ys first).length c, .int .i64 0]) ∧ RowB w' w.heap.size (.slice a (packL 512 ys first).length c) (packL 512 ys first) ∧ Below w.heap.size w w' := by
  have hE : packE ys 512 = 0 := by unfold packE; rw [if_pos ⟨by decide, by decide, hok⟩, if_neg (by omega)]
  have hB : packB ys first 512 = packL 512 ys first := by unfold packB; rw [if_pos hE]
  refine (ppack_any v ys first 512 w hy (by omega)).mono ?_
  rintro e w' ⟨r, rfl, h1, h2⟩
  rw [hB] at h1
  rw [hE]
  obtain ⟨a, c, rfl⟩ := h1.form'
  exact ⟨a, c, rfl, h1, h2⟩
def NewPk (V : World) (l : List Bt) : Ty := fun v w => ∃ a c, v = .tuple #[.slice a l.length c, .int .i64 0] ∧ RowB w V.heap.size (.slice a l.length c) l
theorem NewPk.keeps (V : World) (l : List Bt) (k : Nat) : T3.Keeps (fun _ w w' => Below w.heap.size w w') k (NewPk V l) := fun _ _ _ _ _ ⟨a, c, h1, h2⟩ hb => ⟨a, c, h1, h2.below hb⟩
def NewRb (V : World) (l : List Bt) : Ty := fun v w => ∃ a c, v = .slice a l.length c ∧ RowB w V.heap.size (.slice a l.length c) l
theorem NewRb.keeps (V : World) (l : List Bt) (k : Nat) : T3.Keeps (fun _ w w' => Below w.heap.size w w') k (NewRb V l) := fun _ _ _ _ _ ⟨a, c, h1, h2⟩ hb => ⟨a, c, h1, h2.below hb⟩
theorem RowB.chg {G : Nat → Prop} {w w' : World} {S : Nat} {v : Value} {bs : List Bt} (h : RowB w S v bs) (hc : Chg G w w') (hG : ∀ k, S ≤ k → (BlkT w k 53 ∨ BlkT w k 34) → ¬ G k) : RowB w' S v bs := by
  obtain ⟨vs, k1, k2, k3⟩ := h
  exact ⟨vs, k1, own_chg k2 hc (fun g hg => hG g (k2.lt g hg).1 (.inr (own_blk k2 hg))), fun i hi => ⟨(k3 i hi).1, own_chg (k3 i hi).2 hc (fun g hg => hG g ((k3 i hi).2.lt g hg).1 (.inl (own_blk (k3 i hi).2 hg)))⟩⟩
/-- One batch of a row of one's own. -/
theorem RowB.at {w : World} {S : Nat} {a : Option Addr} {c : Nat} {bs : List Bt} (h : RowB w S (.slice a bs.length c) bs) {k : Nat} (hk : k < bs.length) : ∃ g u, a = some ⟨g, 0, none⟩ ∧ w.cell? ⟨g, k * 2, none⟩ = some (.int .i64 (bs.getD k zb).1) ∧ w.cell? ⟨g, k * 2 + 1, none⟩ = some u ∧ OwO w S u (bs.getD k zb).2 := by
  obtain ⟨vs, k1, k2, k3⟩ := h
  rcases k2.2 with ⟨_, h2⟩ | ⟨g, cap, cur, h2, _, hg, hnc, _, _, htake⟩
  · omega
  · simp only [Value.slice.injEq, true_and] at h2
    obtain ⟨rfl, rfl⟩ := h2
    obtain ⟨h3, h4⟩ := k3 k hk
    have hc : ∀ j, j < 2 → w.cell? ⟨g, k * 2 + j, none⟩ = (c2 (vs.getD k zv))[j]? := fun j hj => by
      rw [cell_of_row w g _ cur 34 (0, 0) hg, ← flat2_at vs k j (by omega) hj, ← htake, List.getElem?_take, if_pos (by omega)]
      simp
    refine ⟨g, (vs.getD k zv).2, rfl, ?_, hc 1 (by decide), h4⟩
    rw [← h3]
    exact hc 0 (by decide)
theorem own_zero {w : World} {S n size c : Nat} {e : TypeId} {a : Addr} {xs : List Value} (h : w.ownsRow S e size (.slice (some a) n c) n xs) : ∃ g, a = ⟨g, 0, none⟩ := by
  rcases h.2 with ⟨h1, _⟩ | ⟨g, cap, cur, hv, _⟩
  · cases h1
  · simp only [Value.slice.injEq, Option.some.injEq] at hv
    exact ⟨g, hv.1⟩
theorem gs_tail {w : World} {g N cap n : Nat} {ps : List Nat} (h : OwP w (.slice (some ⟨g, 0, none⟩) N cap) ps) (hN : N = ps.length) (hn : n ≤ N) : ∃ A0, (if cap = n then (some ⟨g, 0, none⟩ : Option Addr) else some ⟨g, n, none⟩) = some A0 ∧ Gs RPT w (.slice (some A0) (ps.drop n).length (cap - n)) (ps.drop n) := by
  have hcap : N ≤ cap ∧ g < w.heap.size := by
    rcases h.2 with ⟨h1, _⟩ | ⟨g', cap', cur, hv, hb, hg, hnc, hcm, hcs, htake⟩
    · cases h1
    · simp only [Value.slice.injEq, Option.some.injEq, Addr.mk.injEq, and_true] at hv
      obtain ⟨rfl, h2, rfl⟩ := hv
      have hnc' : ps.length ≤ cap := hnc
      exact ⟨by rw [hN]; exact hnc', some_lt hg⟩
  have hdl : (ps.drop n).length = ps.length - n := List.length_drop ..
  by_cases hc : cap = n
  · refine ⟨⟨g, 0, none⟩, if_pos hc, .inl ⟨some ⟨g, 0, none⟩, cap - n, ?_, (fun e => nomatch e), List.drop_of_length_le (show ps.length ≤ n by omega)⟩⟩
    rw [hdl, show ps.length - n = 0 by omega]
  · refine ⟨⟨g, n, none⟩, if_neg hc, .inr ⟨g, n, cap - n, rfl, (by show (ps.drop n).length ≤ cap - n; omega), hcap.2, fun i hi j hj => ?_⟩⟩
    have hi9 : i < (ps.drop n).length := hi
    have hi' : i < ps.length - n := by omega
    have hj' : j < 1 := hj
    obtain rfl : j = 0 := by omega
    have hp : ps[n + i]? = some (ps[n + i]'(by omega)) := List.getElem?_eq_getElem _
    obtain ⟨h1, _⟩ := row_pt (hN ▸ h : OwP w (.slice (some ⟨g, 0, none⟩) ps.length cap) ps) hp
    have e1 : (ps.drop n).getD i 0 = ps[n + i]'(by omega) := by simp [List.getD, show n + i < ps.length by omega]
    have e2 : n + i * RPT.K + 0 = n + i := congrArg (n + ·) (Nat.mul_one i)
    rw [e2, h1]
    show some (ptr _) = some (ptr ((ps.drop n).getD i 0))
    rw [e1]
/-- What Send answers at its end: what is new among what is out. -/
theorem sfin_any {w : World} {F : Nat → Prop} {b : Nat} {s : Sd} {Z : Zs1} {vW : Value} {g c n : Nat} (h : PZ w F b (sdS s) Z vW (.slice (some ⟨g, 0, none⟩) Z.length c)) (hok : SdOk s) (hn : n = s.L.length) :
    ∃ A0, (if c = n then (some ⟨g, 0, none⟩ : Option Addr) else some ⟨g, n, none⟩) = some A0 ∧ Calls Tryz.prog 42 #[.slice (some A0) (Z.length - n) (c - n)] w fun e w' => ∃ r, e = .returned r ∧ RowB w' w.heap.size r (sdT s) ∧ Below w.heap.size w w' := by
  have hok2 := sdok_send hok
  obtain ⟨k1, k2⟩ := h.outs
  obtain ⟨k3, k4⟩ := h.olen hok2
  have hzl : Z.length = n + (sdT s).length := by
    rw [← h.llen, hn]
    show (s.L ++ (sdT s).map fun p => (p, (1 : Int))).length = _
    rw [List.length_append, List.length_map]
  have hout : (Z.map fun z => z.2.1).drop n = sdT s := by
    rw [← h.sout]
    unfold Sd.out sdS
    rw [List.map_append, List.map_map, hn]
    have e : (s.L.map Prod.fst).length = s.L.length := List.length_map ..
    rw [← e, List.drop_left]
    exact List.map_id _
  obtain ⟨ps, hps⟩ : ∃ ps, Z.map Prod.fst = ps := ⟨_, rfl⟩
  have hot := h.ot
  rw [hps] at hot k1 k2 k4
  have hpl : ps.length = Z.length := by rw [← hps, List.length_map]
  obtain ⟨A0, hA, hg⟩ := gs_tail hot hpl.symm (n := n) (by omega)
  refine ⟨A0, hA, ?_⟩
  have hdl : (ps.drop n).length = Z.length - n := by rw [List.length_drop, hpl]
  rw [← hdl]
  have hg2 : ∀ i, i < (ps.drop n).length → (ps.drop n).getD i 0 = ps.getD (n + i) 0 := fun i hi => by simp [List.getD]
  have hb2 : ∀ i, (sdT s).getD i zb = (Z.map fun z => z.2.1).getD (n + i) zb := fun i => by rw [← hout]; simp [List.getD]
  exact bof_any (some A0) (c - n) (ps.drop n) (sdT s) w hg (by rw [hdl]; omega) (fun i hi => by rw [hg2 i hi, hb2 i]; exact k2 (n + i) (by omega)) (by omega) (fun i hi => by rw [hb2 i]; exact k4 (n + i) (by omega))
set_option maxHeartbeats 16000000 in
theorem psend_any {w0 : World} {F : Nat → Prop} {b : Nat} {s : Sd} {Z : Zs1} {vW vO : Value} (h : PZ w0 F b s Z vW vO) (hok : SdOk s) : Calls Tryz.prog 18 #[.pointer (some ⟨b, 0, none⟩)] w0 fun e w' => ∃ r S, e = .returned r ∧ Chg F w0 w' ∧ w0.heap.size ≤ S ∧ RowB w' S r (sdT s) ∧ ∃ F' Z' vW' vO', PZ w' F' b (sdS s) Z' vW' vO' ∧ (∀ k, F' k → F k ∨ w0.heap.size ≤ k) ∧ ∀ k, F' k → k < S := by
  obtain ⟨aO, cO, rfl⟩ := h.oform
  have hzl : Z.length ≤ 16 := (h.olen hok).1
  obtain ⟨P, hP⟩ : ∃ P, packL 512 s.W s.nx = P := ⟨_, rfl⟩
  have hm16 : (sdT s).length ≤ 16 := by
    have h1 := (sdT_top hok).2
    have h2 := hok.win
    have h3 := far_bd (fstN s) s.nx
    omega
  have hpl : P.length ≤ 1024 := by rw [← hP]; exact Nat.le_trans (packL_le 512 s.W s.nx) hok.wl
  have HPZ := Lib.hid h
  have HOK := Lib.hid hok
  have HPK := Lib.hid hP
  have HWL : Hid (s.W.length ≤ 3000) := Nat.le_trans hok.wl (by decide)
  have HWT : Hid (s.W.length ≤ 1024) := hok.wl
  have HAW : Hid (AllOk s.W) := hok.wok
  obtain ⟨c0, c1, c2, c3, c4, cf⟩ := h.cells
  have hbl := h.lt b h.fb
  have kc : ∀ w', Below w0.heap.size w0 w' → w'.cell? ⟨b, 2, none⟩ = some (.int .i64 s.nx) := fun w' hb => (hb.cell (p := ⟨b, 2, none⟩) hbl).trans c2
  clear h hok hP c0 c1 c2 c3 cf hbl
  go_enter Tryz.func18, Tryz.ntmps18
  go_wp2_with fail
  go_step3
  go_upto_region 4 with (fail)
  clear c4
  refine T3.wp_region_tail (C := fun w' => Below w0.heap.size w0 w') (X := fun _ w w' => Below w.heap.size w w') (n := 67) 11 (by kernel_rfl) (by kernel_rfl) (by kernel_rfl) (by kernel_rfl) rfl (fun _ w => Below.refl _ w) (Below.refl _ _).drew ?_
  simp only [List.take_succ_cons, List.take_zero, List.drop_succ_cons, List.drop_zero]
  refine T3.w_is (fun _ w => Below.refl _ w) rfl _ (.inl rfl) (fun ρ w hC hc hfn hf => by have e0 : ρ (.tmp 0) = _ := hf 0 (by decide); (conv => lhs; simp [execOp, go_sem, hc, e0])) ?_
  refine T3.w_call rfl (NewCl w0 s.W) (NewCl.keeps w0 _ 1) 22 (.inl rfl) (fun ρ w hC hc hfn hf => by have e18 : ρ (.tmp 18) = _ := hf 18 (by decide); exact ⟨_, by (conv => lhs; simp [execOp, resolve, invoke, go_sem, hc, hfn, e18]), (pwait_any (HPZ.out.below hC) HWL.out).mono fun e w' h => by obtain ⟨⟨a, c, h1, h2⟩, h3⟩ := h; exact ⟨_, h1, hC.trans (h3.mono hC.size), h3, ⟨a, c, rfl, h2.mono0 hC.size⟩⟩⟩) ?_
  refine T3.w_is (fun _ w => Below.refl _ w) rfl _ (.inl rfl) (fun ρ w hC hc hfn hf => by have e0 : ρ (.tmp 0) = _ := hf 0 (by decide); (conv => lhs; simp [execOp, go_sem, hc, e0])) ?_
  refine T3.w_is (fun _ w => Below.refl _ w) rfl _ (.inl rfl) (fun ρ w hC hc hfn hf => by have e20 : ρ (.tmp 20) = _ := hf 20 (by decide); (conv => lhs; simp [execOp, go_sem, hc, e20])) ?_
  refine T3.w_is (fun _ w => Below.refl _ w) rfl _ (.inl rfl) (fun ρ w hC hc hfn hf => by have e21 : ρ (.tmp 21) = _ := hf 21 (by decide); (conv => lhs; simp [execOp, go_sem, hc, e21])) ?_
  refine T3.w_is (fun _ w => Below.refl _ w) rfl _ (.inl rfl) (fun ρ w hC hc hfn hf => by have e22 : ρ (.tmp 22) = _ := hf 22 (by decide); (conv => lhs; simp [execOp, go_sem, hc, e22, kc w hC])) ?_
  refine T3.w_call rfl (NewPk w0 P) (NewPk.keeps w0 _ 6) 39 (.inl rfl) (fun ρ w hC hc hfn hf => by obtain ⟨a2, c2, e19, ho⟩ := (show (NewCl w0 s.W) (ρ (.tmp 19)) w from hf 19 (by decide)); have e23 : ρ (.tmp 23) = _ := hf 23 (by decide); exact ⟨_, by (conv => lhs; simp [execOp, resolve, invoke, go_sem, hc, hfn, e19, e23]), (ppack2 (.slice a2 s.W.length c2) s.W s.nx w ho.os HAW.out HWT.out).mono fun e w' h => by obtain ⟨a, c, h1, h2, h3⟩ := h; rw [HPK.out] at h1 h2; exact ⟨_, h1, hC.trans (h3.mono hC.size), h3, ⟨a, c, rfl, h2.mono0 hC.size⟩⟩⟩) ?_
  refine T3.w_make rfl (NewPk w0 P) (NewPk.keeps w0 _ 7) (.inl rfl) (fun ρ w hC hc hfn hf => by obtain ⟨a3, c3, e24, hr⟩ := (show (NewPk w0 P) (ρ (.tmp 24)) w from hf 24 (by decide)); exact ⟨_, _, by (conv => lhs; simp [execOp, go_sem, hc, e24]), hC, Below.refl _ _, ⟨a3, c3, rfl, hr⟩⟩) ?_
  refine T3.w_make rfl (NewRb w0 P) (NewRb.keeps w0 _ 8) (.inl rfl) (fun ρ w hC hc hfn hf => by obtain ⟨a4, c4, e17, hr⟩ := (show (NewPk w0 P) (ρ (.tmp 17)) w from hf 17 (by decide)); exact ⟨_, _, by (conv => lhs; simp [execOp, go_sem, hc, e17]), hC, Below.refl _ _, ⟨a4, c4, rfl, hr⟩⟩) ?_
  refine T3.w_is (fun _ w => Below.refl _ w) rfl _ (.inl rfl) (fun ρ w hC hc hfn hf => by obtain ⟨a4, c4, e17, hr⟩ := (show (NewPk w0 P) (ρ (.tmp 17)) w from hf 17 (by decide)); (conv => lhs; simp [execOp, go_sem, hc, e17])) ?_
  refine T3.w_make rfl (NewRb w0 P) (NewRb.keeps w0 _ 10) (.inl rfl) (fun ρ w hC hc hfn hf => by obtain ⟨a5, c5, e25, hr⟩ := (show (NewRb w0 P) (ρ (.tmp 25)) w from hf 25 (by decide)); exact ⟨_, _, by (conv => lhs; simp [execOp, go_sem, hc, e25]), hC, Below.refl _ _, ⟨a5, c5, rfl, hr⟩⟩) ?_
  intro A V5 hC hn hd hf
  obtain ⟨a2, c2, y19, -⟩ := (show (NewCl w0 s.W) (A.eval (.tmp 19)) V5 from hf 19)
  obtain ⟨a3, c3, y24, -⟩ := (show (NewPk w0 P) (A.eval (.tmp 24)) V5 from hf 24)
  obtain ⟨a4, c4, y17, -⟩ := (show (NewPk w0 P) (A.eval (.tmp 17)) V5 from hf 17)
  obtain ⟨a6, c6, y25, -⟩ := (show (NewRb w0 P) (A.eval (.tmp 25)) V5 from hf 25)
  obtain ⟨a5, c5, y4, hrow⟩ := (show (NewRb w0 P) (A.eval (.tmp 4)) V5 from hf 4)
  have y0 : A.eval (.tmp 0) = _ := Eq.trans (hf 0) (by conv => lhs; simp [go_sem])
  have y1 : A.eval (.tmp 1) = _ := Eq.trans (hf 1) (by conv => lhs; simp [go_sem])
  have y2 : A.eval (.tmp 2) = _ := Eq.trans (hf 2) (by conv => lhs; simp [go_sem])
  have y3 : A.eval (.tmp 3) = _ := Eq.trans (hf 3) (by conv => lhs; simp [go_sem])
  have y5 : A.eval (.tmp 5) = _ := Eq.trans (hf 5) (by conv => lhs; simp [go_sem])
  have y6 : A.eval (.tmp 6) = _ := Eq.trans (hf 6) (by conv => lhs; simp [go_sem])
  have y7 : A.eval (.tmp 7) = _ := Eq.trans (hf 7) (by conv => lhs; simp [go_sem])
  have y8 : A.eval (.tmp 8) = _ := Eq.trans (hf 8) (by conv => lhs; simp [go_sem])
  have y9 : A.eval (.tmp 9) = _ := Eq.trans (hf 9) (by conv => lhs; simp [go_sem])
  have y10 : A.eval (.tmp 10) = _ := Eq.trans (hf 10) (by conv => lhs; simp [go_sem])
  have y11 : A.eval (.tmp 11) = _ := Eq.trans (hf 11) (by conv => lhs; simp [go_sem])
  have y12 : A.eval (.tmp 12) = _ := Eq.trans (hf 12) (by conv => lhs; simp [go_sem])
  have y13 : A.eval (.tmp 13) = _ := Eq.trans (hf 13) (by conv => lhs; simp [go_sem])
  have y14 : A.eval (.tmp 14) = _ := Eq.trans (hf 14) (by conv => lhs; simp [go_sem])
  have y15 : A.eval (.tmp 15) = _ := Eq.trans (hf 15) (by conv => lhs; simp [go_sem])
  have y16 : A.eval (.tmp 16) = _ := Eq.trans (hf 16) (by conv => lhs; simp [go_sem])
  have y18 : A.eval (.tmp 18) = _ := hf 18
  have y20 : A.eval (.tmp 20) = _ := hf 20
  have y21 : A.eval (.tmp 21) = _ := hf 21
  have y22 : A.eval (.tmp 22) = _ := hf 22
  have y23 : A.eval (.tmp 23) = _ := hf 23
  have y26 : A.eval (.tmp 26) = _ := hf 26
  have y27 : A.eval (.tmp 27) = _ := Eq.trans (hf 27) (by conv => lhs; simp [go_sem])
  have y28 : A.eval (.tmp 28) = _ := Eq.trans (hf 28) (by conv => lhs; simp [go_sem])
  have y29 : A.eval (.tmp 29) = _ := Eq.trans (hf 29) (by conv => lhs; simp [go_sem])
  have y30 : A.eval (.tmp 30) = _ := Eq.trans (hf 30) (by conv => lhs; simp [go_sem])
  have y31 : A.eval (.tmp 31) = _ := Eq.trans (hf 31) (by conv => lhs; simp [go_sem])
  have y32 : A.eval (.tmp 32) = _ := Eq.trans (hf 32) (by conv => lhs; simp [go_sem])
  have y33 : A.eval (.tmp 33) = _ := Eq.trans (hf 33) (by conv => lhs; simp [go_sem])
  have y34 : A.eval (.tmp 34) = _ := Eq.trans (hf 34) (by conv => lhs; simp [go_sem])
  have y35 : A.eval (.tmp 35) = _ := Eq.trans (hf 35) (by conv => lhs; simp [go_sem])
  have y36 : A.eval (.tmp 36) = _ := Eq.trans (hf 36) (by conv => lhs; simp [go_sem])
  have y37 : A.eval (.tmp 37) = _ := Eq.trans (hf 37) (by conv => lhs; simp [go_sem])
  have y38 : A.eval (.tmp 38) = _ := Eq.trans (hf 38) (by conv => lhs; simp [go_sem])
  have y39 : A.eval (.tmp 39) = _ := Eq.trans (hf 39) (by conv => lhs; simp [go_sem])
  have y40 : A.eval (.tmp 40) = _ := Eq.trans (hf 40) (by conv => lhs; simp [go_sem])
  have y41 : A.eval (.tmp 41) = _ := Eq.trans (hf 41) (by conv => lhs; simp [go_sem])
  have y42 : A.eval (.tmp 42) = _ := Eq.trans (hf 42) (by conv => lhs; simp [go_sem])
  have y43 : A.eval (.tmp 43) = _ := Eq.trans (hf 43) (by conv => lhs; simp [go_sem])
  have y44 : A.eval (.tmp 44) = _ := Eq.trans (hf 44) (by conv => lhs; simp [go_sem])
  have y45 : A.eval (.tmp 45) = _ := Eq.trans (hf 45) (by conv => lhs; simp [go_sem])
  have y46 : A.eval (.tmp 46) = _ := Eq.trans (hf 46) (by conv => lhs; simp [go_sem])
  have y47 : A.eval (.tmp 47) = _ := Eq.trans (hf 47) (by conv => lhs; simp [go_sem])
  have y48 : A.eval (.tmp 48) = _ := Eq.trans (hf 48) (by conv => lhs; simp [go_sem])
  have y49 : A.eval (.tmp 49) = _ := Eq.trans (hf 49) (by conv => lhs; simp [go_sem])
  have y50 : A.eval (.tmp 50) = _ := Eq.trans (hf 50) (by conv => lhs; simp [go_sem])
  have y51 : A.eval (.tmp 51) = _ := Eq.trans (hf 51) (by conv => lhs; simp [go_sem])
  have y52 : A.eval (.tmp 52) = _ := Eq.trans (hf 52) (by conv => lhs; simp [go_sem])
  have y53 : A.eval (.tmp 53) = _ := Eq.trans (hf 53) (by conv => lhs; simp [go_sem])
  have y54 : A.eval (.tmp 54) = _ := Eq.trans (hf 54) (by conv => lhs; simp [go_sem])
  have y55 : A.eval (.tmp 55) = _ := Eq.trans (hf 55) (by conv => lhs; simp [go_sem])
  have y56 : A.eval (.tmp 56) = _ := Eq.trans (hf 56) (by conv => lhs; simp [go_sem])
  have y57 : A.eval (.tmp 57) = _ := Eq.trans (hf 57) (by conv => lhs; simp [go_sem])
  have y58 : A.eval (.tmp 58) = _ := Eq.trans (hf 58) (by conv => lhs; simp [go_sem])
  have y59 : A.eval (.tmp 59) = _ := Eq.trans (hf 59) (by conv => lhs; simp [go_sem])
  have y60 : A.eval (.tmp 60) = _ := Eq.trans (hf 60) (by conv => lhs; simp [go_sem])
  have y61 : A.eval (.tmp 61) = _ := Eq.trans (hf 61) (by conv => lhs; simp [go_sem])
  have y62 : A.eval (.tmp 62) = _ := Eq.trans (hf 62) (by conv => lhs; simp [go_sem])
  have y63 : A.eval (.tmp 63) = _ := Eq.trans (hf 63) (by conv => lhs; simp [go_sem])
  have y64 : A.eval (.tmp 64) = _ := Eq.trans (hf 64) (by conv => lhs; simp [go_sem])
  have y65 : A.eval (.tmp 65) = _ := Eq.trans (hf 65) (by conv => lhs; simp [go_sem])
  have y66 : A.eval (.tmp 66) = _ := Eq.trans (hf 66) (by conv => lhs; simp [go_sem])
  clear hf
  have hA := frame_eq hn
  rw [show List.range 67 = [0, 1, 2, 3, 4, 5, 6, 7, 8, 9, 10, 11, 12, 13, 14, 15, 16, 17, 18, 19, 20, 21, 22, 23, 24, 25, 26, 27, 28, 29, 30, 31, 32, 33, 34, 35, 36, 37, 38, 39, 40, 41, 42, 43, 44, 45, 46, 47, 48, 49, 50, 51, 52, 53, 54, 55, 56, 57, 58, 59, 60, 61, 62, 63, 64, 65, 66] from rfl, hd] at hA
  simp only [List.map_cons, List.map_nil, y0, y1, y2, y3, y4, y5, y6, y7, y8, y9, y10, y11, y12, y13, y14, y15, y16, y17, y18, y19, y20, y21, y22, y23, y24, y25, y26, y27, y28, y29, y30, y31, y32, y33, y34, y35, y36, y37, y38, y39, y40, y41, y42, y43, y44, y45, y46, y47, y48, y49, y50, y51, y52, y53, y54, y55, y56, y57, y58, y59, y60, y61, y62, y63, y64, y65, y66] at hA
  clear y0 y1 y2 y3 y4 y5 y6 y7 y8 y9 y10 y11 y12 y13 y14 y15 y16 y17 y18 y19 y20 y21 y22 y23 y24 y25 y26 y27 y28 y29 y30 y31 y32 y33 y34 y35 y36 y37 y38 y39 y40 y41 y42 y43 y44 y45 y46 y47 y48 y49 y50 y51 y52 y53 y54 y55 y56 y57 y58 y59 y60 y61 y62 y63 y64 y65 y66
  clear hn hd
  subst hA
  have HC5 := Lib.hid hC
  have HROW := Lib.hid hrow
  clear kc hC hrow
  go_wp2_with fail
  go_step3
  go_wp2_with fail
  go_loopw [29] (fun iv wr => ∃ (k : Nat) (Zk : Zs1) (vWk : Value) (aK : Option Addr) (cK : Nat), k ≤ (sdT s).length ∧ k ≤ P.length ∧ iv = .int .i64 k ∧ Hid (Zk.length = Z.length + k) ∧ Zk.length ≤ 100 ∧ Hid (PZ wr (FN F w0 wr) b (stk s k) Zk vWk (.slice aK Zk.length cK)) ∧ Hid (∀ g, vWk.ownBlock = some g → vW.ownBlock = some g) ∧ Hid (RowB wr w0.heap.size (.slice a5 P.length c5) P) ∧ Hid (Chg F w0 wr)) (fun i _ => P.length - (intOf i).toNat)
  case atStart =>
    refine ⟨0, Z, vW, aO, cO, Nat.zero_le _, Nat.zero_le _, rfl, rfl, by omega, ?_, fun g hg => hg, HROW.out, chg0 HC5.out⟩
    show PZ _ _ _ _ _ _ _
    rw [stk_zero]
    exact (HPZ.out.below HC5.out).mono (fun k hk => .inl hk) (FN.lt HPZ.out.lt HC5.out.size)
  case round =>
    obtain ⟨k, Zk, vWk, aK, cK, hkm, hkp, rfl, HZK, hzk, HP, HV, HR, HC⟩ := hrel
    clear HROW HC5
    by_cases hlt : k < P.length
    · obtain ⟨g2, u, hg2, q0, q1, q2⟩ := HR.out.at hlt
      obtain ⟨x, hx⟩ : ∃ x, P.getD k zb = x := ⟨_, rfl⟩
      rw [hx] at q0 q2
      obtain ⟨N, ys⟩ := x
      simp only at q0 q2
      obtain ⟨au, cu, rfl⟩ := own_form q2
      obtain ⟨g9, hg9⟩ : ∃ g9, wr.heap.size = g9 := ⟨_, rfl⟩
      obtain ⟨V, hV⟩ : ∃ V, wr.alloc (.cells #[.int .i64 N, .slice au ys.length cu] 34) = V := ⟨_, rfl⟩
      have hbv : Below wr.heap.size wr V := hV ▸ (Below.refl _ wr).alloc (Nat.le_refl _) _
      have hvg : V.heap[g9]? = some (.cells #[.int .i64 N, .slice au ys.length cu] 34) := by rw [← hV, ← hg9]; exact heap_alloc_new wr _
      have hPV := (HP.out.below hbv).mono (F' := FN F w0 V) (fun y hy => hy.imp (fun e => e) (fun e => ⟨e.1, Nat.lt_of_lt_of_le e.2 hbv.size⟩)) (FN.lt HPZ.out.lt (Nat.le_trans HC.out.size hbv.size))
      have HRV := Lib.hid (HR.out.below hbv)
      have HUV := Lib.hid (q2.below hbv)
      have HCV : Hid (Chg F w0 V) := HC.out.trans (G := fun _ => False) (chg0 hbv) (fun _ _ e => e.elim)
      have HX := Lib.hid hx
      have HG9 := Lib.hid hg9
      have HVV := Lib.hid hV
      have HVG := Lib.hid hvg
      obtain ⟨d0, d1, d2, d3, d4, df⟩ := hPV.cells
      have HPV := Lib.hid hPV
      have HG2 := Lib.hid hg2
      have hltz : (k : Int) < P.length := by omega
      clear d0 d1 d2 d3 df hx q2 hV hbv hvg hPV hg9
      subst hg2
      go_upto_region 8 with (fail)
      rw [HVV.out]
      try simp only [HG9.out]
      clear q0 q1
      go_wp2_with fail
      clear d4
      obtain ⟨wo, hwo⟩ : ∃ wo, wo = wr := ⟨_, rfl⟩
      subst hwo
      go_loopw [38] (fun jv wi => ∃ j : Nat, j ≤ Zk.length ∧ jv = .int .i64 j ∧ Hid (Below V.heap.size V wi) ∧ Hid (∀ (i : Nat) (y : Nat × Bt × Int), i < j → Zk[i]? = some y → withB N y.2.1.1 s.win = true)) (fun j _ => Zk.length - (intOf j).toNat)
      case atStart => exact ⟨0, Nat.zero_le _, rfl, Below.refl _ _, fun i y hi => absurd hi (Nat.not_lt_zero i)⟩
      case round =>
        obtain ⟨j, hj, rfl, HB, HN⟩ := hrel
        by_cases hlj : j < Zk.length
        · obtain ⟨z, hz⟩ : ∃ z, Zk[j]? = some z := ⟨_, List.getElem?_eq_getElem hlj⟩
          have hpi := HPV.out.below HB.out
          obtain ⟨gz, oz, hgz, p0, hs, -, -, pn⟩ := hpi.pt rfl hz
          obtain ⟨rw9, h9⟩ : ∃ r9, wr.ownsRow 0 97 1 (.slice aK Zk.length cK) Zk.length r9 := by
            have h9 := hpi.ot
            unfold OwP at h9
            rw [List.length_map] at h9
            exact ⟨_, h9⟩
          rw [hgz] at h9
          obtain ⟨gz2, hoz⟩ := own_zero h9
          clear h9
          simp only [Addr.mk.injEq, and_true] at hoz
          obtain ⟨rfl, rfl⟩ := hoz
          rw [Nat.zero_add] at p0
          obtain ⟨d0, d1, d2, d3, d4, df⟩ := hpi.cells
          have d0' : wr.cell? ⟨b, 0, none⟩ = some (.int .i64 s.win) := d0
          obtain ⟨p, ⟨⟨m, zs⟩, t⟩⟩ := z
          simp only at p0 pn
          have hg9b : V.heap[g9]? = some (.cells #[.int .i64 N, .slice au ys.length cu] 34) := HVG.out
          have v0 : wr.cell? ⟨g9, 0, none⟩ = some (.int .i64 N) := by
            rw [HB.out.cell (p := ⟨g9, 0, none⟩) (some_lt hg9b)]
            simp [World.cell?, hg9b]
          have l1 := World.block_lt_of_cell? wr _ d0'
          have l2 := World.block_lt_of_cell? wr _ pn
          have l3 := World.block_lt_of_cell? wr _ v0
          have kc : ∀ w', Below wr.heap.size wr w' → w'.cell? ⟨b, 0, none⟩ = some (.int .i64 s.win) ∧ w'.cell? ⟨p, 0, none⟩ = some (.int .i64 m) ∧ w'.cell? ⟨g9, 0, none⟩ = some (.int .i64 N) := fun w' h => ⟨(h.cell (p := ⟨b, 0, none⟩) l1).trans d0', (h.cell (p := ⟨p, 0, none⟩) l2).trans pn, (h.cell (p := ⟨g9, 0, none⟩) l3).trans v0⟩
          have HZ := Lib.hid hz
          have hltj : (j : Int) < Zk.length := by omega
          have HGZ := Lib.hid hgz
          clear hz hpi hs d0 d0' d1 d2 d3 d4 df pn hg9b v0 l1 l2 l3
          subst hgz
          go_upto_region 11 with (fail)
          clear p0
          refine T3.wp_region_tail (C := fun w' => Below wr.heap.size wr w') (X := fun _ w w' => Below w.heap.size w w') (n := 67) 12 (by kernel_rfl) (by kernel_rfl) (by kernel_rfl) (by kernel_rfl) rfl (fun _ w => Below.refl _ w) (Below.refl _ _).drew ?_
          simp only [List.take_succ_cons, List.take_zero, List.drop_succ_cons, List.drop_zero]
          refine T3.w_is (fun _ w => Below.refl _ w) rfl _ (.inl rfl) (fun ρ w hC hc hfn hf => by have e7 : ρ (.tmp 7) = _ := hf 7 (by decide); (conv => lhs; simp [execOp, go_sem, hc, e7])) ?_
          refine T3.w_is (fun _ w => Below.refl _ w) rfl _ (.inl rfl) (fun ρ w hC hc hfn hf => by have e42 : ρ (.tmp 42) = _ := hf 42 (by decide); (conv => lhs; simp [execOp, go_sem, hc, e42, kc w hC])) ?_
          refine T3.w_is (fun _ w => Below.refl _ w) rfl _ (.inl rfl) (fun ρ w hC hc hfn hf => by have e9 : ρ (.tmp 9) = _ := hf 9 (by decide); (conv => lhs; simp [execOp, go_sem, hc, e9])) ?_
          refine T3.w_is (fun _ w => Below.refl _ w) rfl _ (.inl rfl) (fun ρ w hC hc hfn hf => by have e44 : ρ (.tmp 44) = _ := hf 44 (by decide); (conv => lhs; simp [execOp, go_sem, hc, e44])) ?_
          refine T3.w_is (fun _ w => Below.refl _ w) rfl _ (.inl rfl) (fun ρ w hC hc hfn hf => by have e45 : ρ (.tmp 45) = _ := hf 45 (by decide); (conv => lhs; simp [execOp, go_sem, hc, e45])) ?_
          refine T3.w_is (fun _ w => Below.refl _ w) rfl _ (.inl rfl) (fun ρ w hC hc hfn hf => by have e46 : ρ (.tmp 46) = _ := hf 46 (by decide); (conv => lhs; simp [execOp, go_sem, hc, e46])) ?_
          refine T3.w_is (fun _ w => Below.refl _ w) rfl _ (.inl rfl) (fun ρ w hC hc hfn hf => by have e47 : ρ (.tmp 47) = _ := hf 47 (by decide); (conv => lhs; simp [execOp, go_sem, hc, e47, kc w hC])) ?_
          refine T3.w_is (fun _ w => Below.refl _ w) rfl _ (.inl rfl) (fun ρ w hC hc hfn hf => by have e0 : ρ (.tmp 0) = _ := hf 0 (by decide); (conv => lhs; simp [execOp, go_sem, hc, e0])) ?_
          refine T3.w_is (fun _ w => Below.refl _ w) rfl _ (.inl rfl) (fun ρ w hC hc hfn hf => by have e49 : ρ (.tmp 49) = _ := hf 49 (by decide); (conv => lhs; simp [execOp, go_sem, hc, e49])) ?_
          refine T3.w_is (fun _ w => Below.refl _ w) rfl _ (.inl rfl) (fun ρ w hC hc hfn hf => by have e50 : ρ (.tmp 50) = _ := hf 50 (by decide); (conv => lhs; simp [execOp, go_sem, hc, e50])) ?_
          refine T3.w_is (fun _ w => Below.refl _ w) rfl _ (.inl rfl) (fun ρ w hC hc hfn hf => by have e51 : ρ (.tmp 51) = _ := hf 51 (by decide); (conv => lhs; simp [execOp, go_sem, hc, e51, kc w hC])) ?_
          refine T3.w_call rfl (Is _) (fun _ _ _ _ _ h _ => h) 40 (.inl rfl) (fun ρ w hC hc hfn hf => by have e43 : ρ (.tmp 43) = _ := hf 43 (by decide); have e48 : ρ (.tmp 48) = _ := hf 48 (by decide); have e52 : ρ (.tmp 52) = _ := hf 52 (by decide); exact ⟨_, by (conv => lhs; simp [execOp, resolve, invoke, go_sem, hc, hfn, e43, e48, e52]), (within_any N m s.win w).mono fun e w' h => ⟨_, h.1, hC.trans (h.2.mono hC.size), h.2, rfl⟩⟩) ?_
          intro A V7 hC hn hd hf
          have y0 : A.eval (.tmp 0) = _ := Eq.trans (hf 0) (by conv => lhs; simp [go_sem])
          have y1 : A.eval (.tmp 1) = _ := Eq.trans (hf 1) (by conv => lhs; simp [go_sem])
          have y2 : A.eval (.tmp 2) = _ := Eq.trans (hf 2) (by conv => lhs; simp [go_sem])
          have y3 : A.eval (.tmp 3) = _ := Eq.trans (hf 3) (by conv => lhs; simp [go_sem])
          have y4 : A.eval (.tmp 4) = _ := Eq.trans (hf 4) (by conv => lhs; simp [go_sem])
          have y5 : A.eval (.tmp 5) = _ := Eq.trans (hf 5) (by conv => lhs; simp [go_sem])
          have y6 : A.eval (.tmp 6) = _ := Eq.trans (hf 6) (by conv => lhs; simp [go_sem])
          have y7 : A.eval (.tmp 7) = _ := Eq.trans (hf 7) (by conv => lhs; simp [go_sem])
          have y8 : A.eval (.tmp 8) = _ := Eq.trans (hf 8) (by conv => lhs; simp [go_sem])
          have y9 : A.eval (.tmp 9) = _ := Eq.trans (hf 9) (by conv => lhs; simp [go_sem])
          have y10 : A.eval (.tmp 10) = _ := Eq.trans (hf 10) (by conv => lhs; simp [go_sem])
          have y11 : A.eval (.tmp 11) = _ := Eq.trans (hf 11) (by conv => lhs; simp [go_sem])
          have y12 : A.eval (.tmp 12) = _ := Eq.trans (hf 12) (by conv => lhs; simp [go_sem])
          have y13 : A.eval (.tmp 13) = _ := Eq.trans (hf 13) (by conv => lhs; simp [go_sem])
          have y14 : A.eval (.tmp 14) = _ := Eq.trans (hf 14) (by conv => lhs; simp [go_sem])
          have y15 : A.eval (.tmp 15) = _ := Eq.trans (hf 15) (by conv => lhs; simp [go_sem])
          have y16 : A.eval (.tmp 16) = _ := Eq.trans (hf 16) (by conv => lhs; simp [go_sem])
          have y17 : A.eval (.tmp 17) = _ := Eq.trans (hf 17) (by conv => lhs; simp [go_sem])
          have y18 : A.eval (.tmp 18) = _ := Eq.trans (hf 18) (by conv => lhs; simp [go_sem])
          have y19 : A.eval (.tmp 19) = _ := Eq.trans (hf 19) (by conv => lhs; simp [go_sem])
          have y20 : A.eval (.tmp 20) = _ := Eq.trans (hf 20) (by conv => lhs; simp [go_sem])
          have y21 : A.eval (.tmp 21) = _ := Eq.trans (hf 21) (by conv => lhs; simp [go_sem])
          have y22 : A.eval (.tmp 22) = _ := Eq.trans (hf 22) (by conv => lhs; simp [go_sem])
          have y23 : A.eval (.tmp 23) = _ := Eq.trans (hf 23) (by conv => lhs; simp [go_sem])
          have y24 : A.eval (.tmp 24) = _ := Eq.trans (hf 24) (by conv => lhs; simp [go_sem])
          have y25 : A.eval (.tmp 25) = _ := Eq.trans (hf 25) (by conv => lhs; simp [go_sem])
          have y26 : A.eval (.tmp 26) = _ := Eq.trans (hf 26) (by conv => lhs; simp [go_sem])
          have y27 : A.eval (.tmp 27) = _ := Eq.trans (hf 27) (by conv => lhs; simp [go_sem])
          have y28 : A.eval (.tmp 28) = _ := Eq.trans (hf 28) (by conv => lhs; simp [go_sem])
          have y29 : A.eval (.tmp 29) = _ := Eq.trans (hf 29) (by conv => lhs; simp [go_sem])
          have y30 : A.eval (.tmp 30) = _ := Eq.trans (hf 30) (by conv => lhs; simp [go_sem])
          have y31 : A.eval (.tmp 31) = _ := Eq.trans (hf 31) (by conv => lhs; simp [go_sem])
          have y32 : A.eval (.tmp 32) = _ := Eq.trans (hf 32) (by conv => lhs; simp [go_sem])
          have y33 : A.eval (.tmp 33) = _ := Eq.trans (hf 33) (by conv => lhs; simp [go_sem])
          have y34 : A.eval (.tmp 34) = _ := Eq.trans (hf 34) (by conv => lhs; simp [go_sem])
          have y35 : A.eval (.tmp 35) = _ := Eq.trans (hf 35) (by conv => lhs; simp [go_sem])
          have y36 : A.eval (.tmp 36) = _ := Eq.trans (hf 36) (by conv => lhs; simp [go_sem])
          have y37 : A.eval (.tmp 37) = _ := Eq.trans (hf 37) (by conv => lhs; simp [go_sem])
          have y38 : A.eval (.tmp 38) = _ := Eq.trans (hf 38) (by conv => lhs; simp [go_sem])
          have y39 : A.eval (.tmp 39) = _ := Eq.trans (hf 39) (by conv => lhs; simp [go_sem])
          have y40 : A.eval (.tmp 40) = _ := Eq.trans (hf 40) (by conv => lhs; simp [go_sem])
          have y41 : A.eval (.tmp 41) = _ := Eq.trans (hf 41) (by conv => lhs; simp [go_sem])
          have y42 : A.eval (.tmp 42) = _ := hf 42
          have y43 : A.eval (.tmp 43) = _ := hf 43
          have y44 : A.eval (.tmp 44) = _ := hf 44
          have y45 : A.eval (.tmp 45) = _ := hf 45
          have y46 : A.eval (.tmp 46) = _ := hf 46
          have y47 : A.eval (.tmp 47) = _ := hf 47
          have y48 : A.eval (.tmp 48) = _ := hf 48
          have y49 : A.eval (.tmp 49) = _ := hf 49
          have y50 : A.eval (.tmp 50) = _ := hf 50
          have y51 : A.eval (.tmp 51) = _ := hf 51
          have y52 : A.eval (.tmp 52) = _ := hf 52
          have y53 : A.eval (.tmp 53) = _ := hf 53
          have y54 : A.eval (.tmp 54) = _ := Eq.trans (hf 54) (by conv => lhs; simp [go_sem])
          have y55 : A.eval (.tmp 55) = _ := Eq.trans (hf 55) (by conv => lhs; simp [go_sem])
          have y56 : A.eval (.tmp 56) = _ := Eq.trans (hf 56) (by conv => lhs; simp [go_sem])
          have y57 : A.eval (.tmp 57) = _ := Eq.trans (hf 57) (by conv => lhs; simp [go_sem])
          have y58 : A.eval (.tmp 58) = _ := Eq.trans (hf 58) (by conv => lhs; simp [go_sem])
          have y59 : A.eval (.tmp 59) = _ := Eq.trans (hf 59) (by conv => lhs; simp [go_sem])
          have y60 : A.eval (.tmp 60) = _ := Eq.trans (hf 60) (by conv => lhs; simp [go_sem])
          have y61 : A.eval (.tmp 61) = _ := Eq.trans (hf 61) (by conv => lhs; simp [go_sem])
          have y62 : A.eval (.tmp 62) = _ := Eq.trans (hf 62) (by conv => lhs; simp [go_sem])
          have y63 : A.eval (.tmp 63) = _ := Eq.trans (hf 63) (by conv => lhs; simp [go_sem])
          have y64 : A.eval (.tmp 64) = _ := Eq.trans (hf 64) (by conv => lhs; simp [go_sem])
          have y65 : A.eval (.tmp 65) = _ := Eq.trans (hf 65) (by conv => lhs; simp [go_sem])
          have y66 : A.eval (.tmp 66) = _ := Eq.trans (hf 66) (by conv => lhs; simp [go_sem])
          clear hf
          have hA := frame_eq hn
          rw [show List.range 67 = [0, 1, 2, 3, 4, 5, 6, 7, 8, 9, 10, 11, 12, 13, 14, 15, 16, 17, 18, 19, 20, 21, 22, 23, 24, 25, 26, 27, 28, 29, 30, 31, 32, 33, 34, 35, 36, 37, 38, 39, 40, 41, 42, 43, 44, 45, 46, 47, 48, 49, 50, 51, 52, 53, 54, 55, 56, 57, 58, 59, 60, 61, 62, 63, 64, 65, 66] from rfl, hd] at hA
          simp only [List.map_cons, List.map_nil, y0, y1, y2, y3, y4, y5, y6, y7, y8, y9, y10, y11, y12, y13, y14, y15, y16, y17, y18, y19, y20, y21, y22, y23, y24, y25, y26, y27, y28, y29, y30, y31, y32, y33, y34, y35, y36, y37, y38, y39, y40, y41, y42, y43, y44, y45, y46, y47, y48, y49, y50, y51, y52, y53, y54, y55, y56, y57, y58, y59, y60, y61, y62, y63, y64, y65, y66] at hA
          clear y0 y1 y2 y3 y4 y5 y6 y7 y8 y9 y10 y11 y12 y13 y14 y15 y16 y17 y18 y19 y20 y21 y22 y23 y24 y25 y26 y27 y28 y29 y30 y31 y32 y33 y34 y35 y36 y37 y38 y39 y40 y41 y42 y43 y44 y45 y46 y47 y48 y49 y50 y51 y52 y53 y54 y55 y56 y57 y58 y59 y60 y61 y62 y63 y64 y65 y66
          clear hn hd
          subst hA
          have HB7 := Lib.hid (HB.out.trans (hC.mono HB.out.size))
          clear kc hC
          cases hw : withB N m s.win with
          | false =>
            have hke : k = (sdT s).length := by
              rcases Nat.lt_or_ge k (sdT s).length with h9 | h9
              · have hx9 := HX.out
                obtain ⟨R, hR, _⟩ := sdT_split s
                have hpe : P = sdT s ++ R := HPK.out.symm.trans hR
                rw [hpe, getD_app h9] at hx9
                have hm9 : ((m, zs), t) ∈ (stk s k).L := by
                  rw [HPV.out.zl]
                  exact List.mem_map.2 ⟨_, List.mem_of_getElem? HZ.out, rfl⟩
                have h8 := near_all HOK.out h9 _ hm9
                rw [hx9] at h8
                have h8' : withB N m s.win = true := h8
                rw [hw] at h8'
                cases h8'
              · omega
            have HFS : Hid (stk s k = sdS s) := by rw [hke]; exact stk_end s
            have hpx := HPV.out.below HB7.out
            rw [HFS.out] at hpx
            obtain ⟨A0, hA, hcall⟩ := sfin_any hpx HOK.out (n := Z.length) HPZ.out.llen.symm
            obtain ⟨d0, d1, d2, d3, d4, df⟩ := hpx.cells
            have hle : Z.length ≤ Zk.length := by have := HZK.out; omega
            have HCALL := Lib.hid hcall
            have HPX := Lib.hid hpx
            have HCX : Hid (Chg F w0 V7) := HCV.out.trans (G := fun _ => False) (chg0 HB7.out) (fun _ _ e => e.elim)
            have HVS : Hid (V.heap.size ≤ V7.heap.size) := HB7.out.size
            have hcap : Zk.length ≤ cK := by
              have h9 := hpx.ot
              rcases h9.2 with ⟨h1, _⟩ | ⟨g', cap', cur, hv, hb, hg, hnc, hcm, hcs, htake⟩
              · cases h1
              · simp only [Value.slice.injEq] at hv
                rw [List.length_map] at hnc
                omega
            clear HN HB HB7 HZ HRV HUV HVG HVV HR HP hpx hke d0 d1 d2 d3 df hcall
            go_wp2_with fail
            refine HCALL.out.mono ?_
            rintro e w9 ⟨r, rfl, hr, hb9⟩
            obtain ⟨a9, c9, rfl⟩ := hr.form'
            have HRR := Lib.hid hr
            have HB9 := Lib.hid hb9
            clear hr hb9 d4
            go_wp2_with fail
            try rw [Exit.noGoto_ret]
            try show bodyPost _ _ _ _ _ _
            go_ret
            refine ⟨_, V7.heap.size, rfl, HCX.out.trans (G := fun _ => False) (chg0 HB9.out) (fun _ _ e => e.elim), HCX.out.size, HRR.out, _, _, _, _, HPX.out.below HB9.out, FN.new, fun k hk => Nat.lt_of_lt_of_le (FN.lt HPZ.out.lt HCV.out.size k hk) HVS.out⟩
          | true =>
            have HW := Lib.hid hw
            go_wp2_with fail
            go_roundw
            case rel => exact ⟨j + 1, by omega, by go_num, HB7.out, fun i y hi hy => by
              by_cases h9 : i = j
              · subst h9
                have e := hy.symm.trans HZ.out
                cases e
                exact HW.out
              · exact HN.out i y (by omega) hy⟩
            case measure => simp [intOf]; omega
        · obtain rfl : j = Zk.length := by omega
          have hks : k < (sdT s).length := by
            rcases Nat.lt_or_ge k (sdT s).length with h9 | h9
            · exact h9
            · exfalso
              have hke : k = (sdT s).length := by omega
              obtain ⟨R, hR, _⟩ := sdT_split s
              have hpe : P = sdT s ++ R := HPK.out.symm.trans hR
              cases R with
              | nil => rw [hpe, List.append_nil] at hlt; omega
              | cons p R =>
                have hx9 := HX.out
                rw [hpe, hke] at hx9
                have hx8 : (sdT s ++ p :: R).getD (sdT s).length zb = p := by simp [List.getD]
                rw [hx8] at hx9
                obtain ⟨e, he, hw⟩ := far_stop HOK.out hR
                rw [← stk_end s, ← hke, HPV.out.zl, List.getElem?_map] at he
                cases hz0 : Zk[0]? with
                | none => rw [hz0] at he; cases he
                | some z0 =>
                  rw [hz0] at he
                  have he' : z0.2 = e := by cases he; rfl
                  have h8 := HN.out 0 z0 (List.getElem?_eq_some_iff.1 hz0).1 hz0
                  rw [he', ] at h8
                  rw [hx9] at hw
                  have hw' : withB N e.1.1 s.win = false := hw
                  rw [h8] at hw'
                  cases hw'
          obtain ⟨R, hR, _⟩ := sdT_split s
          have hx9 := HX.out
          rw [HPK.out.symm.trans hR, getD_app hks] at hx9
          obtain ⟨hbt, hyl⟩ := stk_len HOK.out hks
          have hsucc := stk_succ HOK.out hks
          rw [hx9] at hbt hyl hsucc
          have hpi := (HPV.out.below HB.out).mono (F' := FN F w0 wr) (fun y hy => hy.imp (fun e => e) (fun e => ⟨e.1, Nat.lt_of_lt_of_le e.2 HB.out.size⟩)) (FN.lt HPZ.out.lt (Nat.le_trans HCV.out.size HB.out.size))
          have hu := HUV.out.below HB.out
          have hvk : ∀ g, vWk.ownBlock = some g → g < w0.heap.size := fun g hg => HPZ.out.lt g (HPZ.out.wf g (HV.out g hg))
          have ho : ObI wr (FN F w0 wr) vWk (.slice au ys.length cu) ys := ⟨hu.os, rfl, fun a n c e hn => by
            have hob : (Value.slice au ys.length cu).ownBlock = some a.block := by rw [e]; rfl
            obtain ⟨l1, l2⟩ := World.ownsRow.lt hu a.block hob
            exact ⟨.inr ⟨l1, l2⟩, own_blk hu hob, fun e2 => by have := hvk a.block e2; omega⟩⟩
          have CLO := Lib.hid (letout_any N ys (.slice au ys.length cu) hpi ho (show 0 < ys.length from hbt.2.1.1) hyl (by omega))
          have hg9b : V.heap[g9]? = some (.cells #[.int .i64 N, .slice au ys.length cu] 34) := HVG.out
          have v0 : wr.cell? ⟨g9, 0, none⟩ = some (.int .i64 N) := by
            rw [HB.out.cell (p := ⟨g9, 0, none⟩) (some_lt hg9b)]
            simp [World.cell?, hg9b]
          have v1 : wr.cell? ⟨g9, 1, none⟩ = some (.slice au ys.length cu) := by
            rw [HB.out.cell (p := ⟨g9, 1, none⟩) (some_lt hg9b)]
            simp [World.cell?, hg9b]
          have hkm1 : k + 1 ≤ (sdT s).length := hks
          have HSU := Lib.hid hsucc
          have HPI := Lib.hid hpi
          have HVK := Lib.hid hvk
          have HCR : Hid (Chg F w0 wr) := HCV.out.trans (G := fun _ => False) (chg0 HB.out) (fun _ _ e => e.elim)
          have HRR := Lib.hid (HRV.out.below HB.out)
          clear hks hR hx9 hbt hyl hsucc hpi hu hvk ho hg9b HN HVV HVG HUV HRV HPV HCV
          go_wp2_with fail
          refine CLO.out.mono ?_
          rintro e w9 ⟨rfl, hc9, Z9, vW9, vO9, hp9, ⟨p9, rfl⟩, hv9⟩
          obtain ⟨a9, c9, rfl⟩ := hp9.oform
          have hl9 : (Zk ++ [(p9, (N, ys), 1)]).length = Zk.length + 1 := by rw [List.length_append]; rfl
          have hob : ∀ g, (Value.slice aK Zk.length cK).ownBlock = some g → BlkT wr g 97 := fun g hg => own_blk HPI.out.ot hg
          have hr9 := HRR.out.chg hc9 (fun y hy ht hL => by
            rcases hL with rfl | hL | hL
            · have := HPZ.out.lt y HPZ.out.fb; omega
            · have := HVK.out y hL; omega
            · exact ht.elim (fun h => h.ne (hob y hL) (by decide) rfl) (fun h => h.ne (hob y hL) (by decide) rfl))
          have hcc : Chg F w0 w9 := HCR.out.trans hc9 (fun y hy hL => by
            rcases hL with rfl | hL | hL
            · exact HPZ.out.fb
            · exact HPZ.out.wf y (HV.out y hL)
            · exact (HPI.out.of y hL).elim (fun h => h) (fun h => by omega))
          have hp9' : PZ w9 (FN F w0 w9) b (stk s (k + 1)) (Zk ++ [(p9, (N, ys), 1)]) vW9 (.slice a9 (Zk ++ [(p9, (N, ys), 1)]).length c9) := by
            rw [← HSU.out]
            exact hp9.mono (fun y hy => (FN.up HCR.out.size hc9.size y).1 hy) (FN.lt HPZ.out.lt hcc.size)
          have HR9 := Lib.hid hr9
          have HC9 := Lib.hid hcc
          have HP9 := Lib.hid hp9'
          have HV9 : Hid (∀ g, vW9.ownBlock = some g → vW.ownBlock = some g) := fun g hg => HV.out g (hv9 g hg)
          have HZ9 : Hid ((Zk ++ [(p9, (N, ys), (1 : Int))]).length = Z.length + (k + 1)) := by show _ = _; rw [hl9, HZK.out]; omega
          have hz9 : (Zk ++ [(p9, (N, ys), (1 : Int))]).length ≤ 100 := by rw [HZ9.out]; omega
          clear hc9 hp9 hob hr9 hcc hp9' hv9 v0 v1
          go_wp2_with fail
          go_roundw
          case rel => exact ⟨k + 1, _, vW9, a9, c9, hkm1, by omega, by go_num, HZ9.out, hz9, HP9.out, HV9.out, HR9.out, HC9.out⟩
          case measure => simp [intOf]; omega
    · have hke : k = (sdT s).length := by
        obtain ⟨R, hR, _⟩ := sdT_split s
        have h9 : P.length = (sdT s).length + R.length := by rw [← HPK.out, hR, List.length_append]
        omega
      have HFS : Hid (stk s k = sdS s) := by rw [hke]; exact stk_end s
      have hpx := HP.out
      rw [HFS.out] at hpx
      have hfin : Hid (∀ r S w9, Chg F w0 wr → RowB w9 wr.heap.size r (sdT s) → Below wr.heap.size wr w9 → S = wr.heap.size → Chg F w0 w9 ∧ w0.heap.size ≤ S ∧ RowB w9 S r (sdT s) ∧ ∃ F' Z' vW' vO', PZ w9 F' b (sdS s) Z' vW' vO' ∧ (∀ k, F' k → F k ∨ w0.heap.size ≤ k) ∧ ∀ k, F' k → k < S) := fun r S w9 hc hr hb e => by
        subst e
        exact ⟨hc.trans (G := fun _ => False) (chg0 hb) (fun _ _ e => e.elim), hc.size, hr, _, _, _, _, hpx.below hb, FN.new, FN.lt HPZ.out.lt hc.size⟩
      obtain ⟨d0, d1, d2, d3, d4, df⟩ := hpx.cells
      have hle : Z.length ≤ Zk.length := by have := HZK.out; omega
      have hdec : decide ((k : Int) < (P.length : Int)) = false := decide_eq_false (by omega)
      clear hke d0 d1 d2 d3 df HR
      cases aK with
      | none =>
        have hn0 : Zk.length = 0 ∧ cK = 0 := by
          rcases hpx.ot.2 with ⟨h1, h2⟩ | ⟨g', cap', cur, hv, _⟩
          · rw [List.length_map] at h2
            simp only [Value.slice.injEq] at h1
            exact ⟨h2, h1.2.2⟩
          · cases hv
        have hz0 : Z.length = 0 := by omega
        have hs0 : sdT s = [] := by
          have h1 := HZK.out
          have h2 := hpx.llen
          have h3 : (sdS s).L.length = s.L.length + (sdT s).length := by
            show (s.L ++ (sdT s).map fun p => (p, (1 : Int))).length = _
            rw [List.length_append, List.length_map]
          exact List.eq_nil_of_length_eq_zero (by omega)
        obtain ⟨h1, h2⟩ := hn0
        have CB := Lib.hid (bof_any none 0 [] [] wr (Gs_nil (R := RPT) wr) rfl (fun i hi => absurd hi (Nat.not_lt_zero i)) (Nat.zero_le _) (fun i hi => absurd hi (Nat.not_lt_zero i)))
        have HS0 := Lib.hid hs0
        rw [h1] at d4
        subst h2
        rw [hz0]
        clear hpx hz0 hs0 h1 hle
        go_wp2_with fail
        refine CB.out.mono ?_
        rintro e w9 ⟨r, rfl, hr, hb9⟩
        have hr2 : RowB w9 wr.heap.size r (sdT s) := by rw [HS0.out]; exact hr
        obtain ⟨a9, c9, rfl⟩ := hr.form'
        have HRR := Lib.hid hr2
        have HB9 := Lib.hid hb9
        clear hr hb9 d4 hr2
        go_wp2_with fail
        try rw [Exit.noGoto_ret]
        try show bodyPost _ _ _ _ _ _
        go_ret
        exact ⟨_, wr.heap.size, rfl, hfin.out _ _ _ HC.out HRR.out HB9.out rfl⟩
      | some ad =>
        obtain ⟨rw9, h9⟩ : ∃ r9, wr.ownsRow 0 97 1 (.slice (some ad) Zk.length cK) Zk.length r9 := by
          have h9 := hpx.ot
          unfold OwP at h9
          rw [List.length_map] at h9
          exact ⟨_, h9⟩
        obtain ⟨gz, rfl⟩ := own_zero h9
        obtain ⟨A0, hA, hcall⟩ := sfin_any hpx HOK.out (n := Z.length) HPZ.out.llen.symm
        have HCALL := Lib.hid hcall
        have hcap : Zk.length ≤ cK := by
          rcases h9.2 with ⟨h1, _⟩ | ⟨g', cap', cur, hv, hb, hg, hnc, hcm, hcs, htake⟩
          · cases h1
          · simp only [Value.slice.injEq] at hv
            omega
        clear h9 hpx hcall
        go_wp2_with fail
        refine HCALL.out.mono ?_
        rintro e w9 ⟨r, rfl, hr, hb9⟩
        obtain ⟨a9, c9, rfl⟩ := hr.form'
        have HRR := Lib.hid hr
        have HB9 := Lib.hid hb9
        clear hr hb9 d4
        go_wp2_with fail
        try rw [Exit.noGoto_ret]
        try show bodyPost _ _ _ _ _ _
        go_ret
        exact ⟨_, wr.heap.size, rfl, hfin.out _ _ _ HC.out HRR.out HB9.out rfl⟩
end Go.Proofs.YtfiaghfaijlfjaaGreat

namespace Go.Proofs.YtfiaghfaijlfjaaGreat
set_option maxRecDepth 100000
set_option linter.unusedVariables false
open Go.RowKit

theorem own_oso {w : World} {S : Nat} {G : Nat → Prop} {u : Value} {ys : List Ob} (h : OwO w S u ys) (hG : ∀ k, G k → k < S) : OsO w G u ys := ⟨h.os, fun a n c e _ => by
  have hb : u.ownBlock = some a.block := by rw [e]; rfl
  refine ⟨fun hg => ?_, own_blk h hb⟩
  have h1 := (World.ownsRow.lt h a.block hb).1
  have h2 := hG _ hg
  omega⟩
theorem rowb_btso {w : World} {S : Nat} {G : Nat → Prop} {r : Value} {bs : List Bt} (h : RowB w S r bs) (hG : ∀ k, G k → k < S) : BtsO w G r bs := by
  obtain ⟨vs, k1, k2, k3⟩ := h
  rcases k2.2 with ⟨h4, h5⟩ | ⟨g, cap, cur, h4, hb, hg, hnc, _, hcs, htake⟩
  · exact .inl ⟨none, 0, by rw [h4], fun _ => rfl, List.eq_nil_of_length_eq_zero h5⟩
  · refine .inr ⟨g, 0, cap, h4, hnc, some_lt hg, fun hf => by have := hG _ hf; omega, fun i hi => ?_⟩
    have hc : ∀ j, j < 2 → w.cell? ⟨g, 0 + i * 2 + j, none⟩ = (c2 (vs.getD i zv))[j]? := fun j hj => by
      rw [cell_of_row w g _ cur 34 (0, 0) hg, Nat.zero_add, ← flat2_at vs i j (by omega) hj, ← htake, List.getElem?_take, if_pos (by omega)]
      simp
    have e0 := hc 0 (by decide)
    have e1 := hc 1 (by decide)
    obtain ⟨q1, q2⟩ := k3 i hi
    refine ⟨by rw [← q1]; exact e0, (vs.getD i zv).2, e1, ?_, own_oso q2 hG⟩
    obtain ⟨a, c, e⟩ := own_form q2
    rw [e]
    rfl
theorem dc : Dc PS where
  lt := fun {w F b s} h k hk => by
    obtain ⟨_, Z, vW, vO, h⟩ := h
    exact h.lt k hk
  ok := fun {w F b s} h => h.1
  keep := fun {w w' F G b s} h hc hG => by
    obtain ⟨h0, Z, vW, vO, h⟩ := h
    exact ⟨h0, Z, vW, vO, h.keep hc hG⟩
  new := pnew_any
  push := fun {w F b s} y h => by
    obtain ⟨h0, Z, vW, vO, h⟩ := h
    refine (ppush_any y h h0.wl).mono ?_
    rintro e w' ⟨h1, h2, F', vW', h3, h4⟩
    exact ⟨h1, h2, F', ⟨sdok_push h0 y, Z, vW', vO, h3⟩, h4⟩
  send := fun {w F b s} h => by
    obtain ⟨h0, Z, vW, vO, h⟩ := h
    refine (psend_any h h0).mono ?_
    rintro e w' ⟨r, S, h1, h2, h3, h4, F', Z', vW', vO', h5, h6, h7⟩
    exact ⟨r, h1, h2, F', ⟨sdok_send h0, Z', vW', vO', h5⟩, h6, rowb_btso h4 (fun k hk => hk.elim (h7 k) (fun h => by omega))⟩
  again := fun {w F b s} h => by
    obtain ⟨h0, Z, vW, vO, h⟩ := h
    refine (pagain_any h h0).mono ?_
    rintro e w' ⟨r, h1, h2, ⟨Z', h3⟩, h4⟩
    exact ⟨r, h1, h2, F, ⟨sdok_again h0, Z', vW, vO, h3⟩, fun k hk => .inl hk, rowb_btso h4 (fun k hk => h.lt k hk)⟩
  got := fun {w F b s} a h => by
    obtain ⟨h0, Z, vW, vO, h⟩ := h
    refine (pgot_any a.1 a.2.1 a.2.2.1 a.2.2.2 h h0).mono ?_
    rintro e w' ⟨h1, h2, F', Z', vO', h3, h4⟩
    exact ⟨h1, h2, F', ⟨sdok_got h0 a, Z', vW, vO', h3⟩, h4⟩
  wait := fun {w F b s} h => by
    obtain ⟨h0, Z, vW, vO, h⟩ := h
    refine (pwait_any h (Nat.le_trans h0.wl (by decide))).mono ?_
    rintro e w' ⟨⟨a, c, h1, h2⟩, h3⟩
    exact ⟨_, h1, chg0 h3, F, ⟨h0, Z, vW, vO, h.below h3⟩, fun k hk => .inl hk, own_oso h2 (fun k hk => hk.elim (h.lt k) (fun h => h))⟩
  out := fun {w F b s} h => by
    obtain ⟨h0, Z, vW, vO, h⟩ := h
    refine (pout_any h h0).mono ?_
    rintro e w' ⟨⟨a, c, h1, h2⟩, h3⟩
    exact ⟨_, h1, chg0 h3, F, ⟨h0, Z, vW, vO, h.below h3⟩, fun k hk => .inl hk, rowb_btso h2 (h.lt)⟩
  pushN := push_nil
  sendN := send_nil
  againN := again_nil
  gotN := got_nil
  waitN := wait_nil
  outN := out_nil
#print axioms dc
end Go.Proofs.YtfiaghfaijlfjaaGreat

namespace Go.Proofs.YtfiaghfaijlfjaaGreat
set_option maxRecDepth 100000
set_option linter.unusedVariables false

/-- What came: told, or held. -/
def Came (t : Tk) (n : Int) : Prop := n < t.nx ∨ n ∈ nums t.H
/-- A play: Bs is all that was ever sent, by its numbers. -/
structure Play (s : Sd) (t : Tk) (Bs : List Bt) (pushed : List Ob) : Prop where
  sok : SdOk s
  tok : TkOk t
  few : Bs.length ≤ 20000
  num : ∀ i (h : i < Bs.length), Bs[i].1 = (i : Int)
  bok : ∀ x ∈ Bs, BtOk x.1 x.2
  snx : s.nx = Bs.length
  tnx : t.nx ≤ Bs.length
  out : ∀ e ∈ s.L, e.1 ∈ Bs
  held : ∀ h ∈ t.H, h ∈ Bs
  gone : ∀ x ∈ Bs, Came t x.1 ∨ x ∈ s.out
  all : (Bs.map Prod.snd).flatten ++ s.W = pushed
def toldP (t : Tk) (Bs : List Bt) : List Ob := ((Bs.take t.nx.toNat).map Prod.snd).flatten
/-- An ack that was told some time. -/
structure AckP (a : Ak) (t : Tk) : Prop where
  one : AkOne a
  rng : 0 ≤ a.2.2.1 ∧ a.2.2.1 ≤ t.nx
  has : ∀ n : Int, 0 ≤ n → n < 20000 → hasN a.2.2.1 a.2.2.2 n = true → Came t n
theorem numAt_flat {n : Int} (hn : 0 ≤ n) : ∀ i : Nat, n + i ≤ 65535 → numAt n i = n + i
  | 0, _ => by show n = n + 0; omega
  | i + 1, h => by
    rw [numAt_succ, numAt_flat hn i (by omega)]
    unfold nxt
    omega
theorem far_up {a b : Int} (ha : 0 ≤ a) (hab : a ≤ b) (hb : b ≤ 65535) : far a b = b - a := by unfold far; omega
theorem far_down {a b : Int} (hb : 0 ≤ b) (hab : b < a) (ha : a ≤ 65535) : far a b = 65536 - (a - b) := by unfold far; omega
section
variable {s : Sd} {t : Tk} {Bs : List Bt} {pushed : List Ob}
theorem Play.idx (h : Play s t Bs pushed) {x : Bt} (hx : x ∈ Bs) : ∃ i, ∃ hi : i < Bs.length, Bs[i] = x ∧ x.1 = (i : Int) := by
  obtain ⟨i, hi, rfl⟩ := List.mem_iff_getElem.1 hx
  exact ⟨i, hi, rfl, h.num i hi⟩
theorem Play.uniq (h : Play s t Bs pushed) {x y : Bt} (hx : x ∈ Bs) (hy : y ∈ Bs) (e : x.1 = y.1) : x = y := by
  obtain ⟨i, hi, rfl, h1⟩ := h.idx hx
  obtain ⟨j, hj, rfl, h2⟩ := h.idx hy
  have : i = j := by omega
  subst this
  rfl
theorem play_new {win tries : Int} (hn : nwOk win tries) : Play (sd0 win tries) tk0 [] [] :=
  ⟨sdok_new hn, tkok_new, Nat.zero_le _, fun i hi => absurd hi (Nat.not_lt_zero i), fun x hx => absurd hx List.not_mem_nil, rfl, Int.le_refl 0, fun e he => absurd he List.not_mem_nil, fun e he => absurd he List.not_mem_nil, fun e he => absurd he List.not_mem_nil, rfl⟩
theorem Play.push (h : Play s t Bs pushed) (y : Ob) : Play (pushR s y).2 t Bs (if (pushR s y).1 = 0 then pushed ++ [y] else pushed) := by
  by_cases hok : y.Ok
  · by_cases hf : 1024 ≤ s.W.length
    · rw [pushR_full hok hf]
      exact h
    · have h9 := sdok_push h.sok y
      rw [pushR_ok hok hf] at h9 ⊢
      refine ⟨h9, h.tok, h.few, h.num, h.bok, h.snx, h.tnx, h.out, h.held, h.gone, ?_⟩
      show _ ++ (s.W ++ [y]) = pushed ++ [y]
      rw [← List.append_assoc, h.all]
  · rw [pushR_no hok]
    exact h
theorem Play.again (h : Play s t Bs pushed) : Play (agS s) t Bs pushed := by
  have hw := ag_W s
  refine ⟨sdok_again h.sok, h.tok, h.few, h.num, h.bok, by rw [hw.2]; exact h.snx, h.tnx, fun e he => ?_, h.held, fun x hx => by rw [out_again]; exact h.gone x hx, by rw [hw.1]; exact h.all⟩
  have h1 : e.1 ∈ (agS s).out := List.mem_map.2 ⟨e, he, rfl⟩
  rw [out_again] at h1
  obtain ⟨e', h2, h3⟩ := List.mem_map.1 h1
  rw [← h3]
  exact h.out e' h2
theorem Play.send (h : Play s t Bs pushed) (hl : Bs.length + (sdT s).length ≤ 20000) : Play (sdS s) t (Bs ++ sdT s) pushed := by
  have hn : ∀ i, i < (sdT s).length → ((sdT s).getD i zb).1 = ((Bs.length + i : Nat) : Int) := fun i hi => by
    rw [sdT_num h.sok i hi, h.snx, numAt_flat (by omega) i (by omega)]
    omega
  have hmo : ∀ x, x ∈ (sdS s).out ↔ x ∈ s.out ∨ x ∈ sdT s := fun x => by
    have e : (sdS s).out = s.out ++ sdT s := by
      unfold Sd.out sdS
      rw [List.map_append, List.map_map]
      congr 1
      exact List.map_id _
    rw [e, List.mem_append]
  refine ⟨sdok_send h.sok, h.tok, by rw [List.length_append]; exact hl, fun i hi => ?_, fun x hx => ?_, ?_, by rw [List.length_append]; have := h.tnx; omega, fun e he => ?_, fun y hy => List.mem_append_left _ (h.held y hy), fun x hx => ?_, ?_⟩
  · rw [List.length_append] at hi
    by_cases h1 : i < Bs.length
    · rw [List.getElem_append_left h1]
      exact h.num i h1
    · rw [List.getElem_append_right (by omega)]
      have h2 := hn (i - Bs.length) (by omega)
      have e : (sdT s).getD (i - Bs.length) zb = (sdT s)[i - Bs.length]'(by omega) := by simp [List.getD, show i - Bs.length < (sdT s).length by omega]
      rw [e] at h2
      rw [h2]
      omega
  · rcases List.mem_append.1 hx with h1 | h1
    · exact h.bok x h1
    · obtain ⟨i, hi, rfl⟩ := List.mem_iff_getElem.1 h1
      have h2 := (stk_len h.sok hi).1
      have e : (sdT s).getD i zb = (sdT s)[i] := by simp [List.getD, hi]
      rw [e] at h2
      exact h2
  · show nxA s.nx (sdT s) = _
    unfold nxA
    rw [h.snx, numAt_flat (by omega) _ (by omega), List.length_append]
    omega
  · have h1 : e.1 ∈ (sdS s).out := List.mem_map.2 ⟨e, he, rfl⟩
    rcases (hmo _).1 h1 with h2 | h2
    · obtain ⟨e', h3, h4⟩ := List.mem_map.1 h2
      rw [← h4]
      exact List.mem_append_left _ (h.out e' h3)
    · exact List.mem_append_right _ h2
  · rcases List.mem_append.1 hx with h1 | h1
    · exact (h.gone x h1).imp (fun e => e) (fun e => (hmo x).2 (.inl e))
    · exact .inr ((hmo x).2 (.inr h1))
  · rw [List.map_append, List.flatten_append, List.append_assoc, send_all]
    exact h.all
theorem told_send (h : Play s t Bs pushed) (l : List Bt) : toldP t (Bs ++ l) = toldP t Bs := by
  unfold toldP
  have h1 := h.tnx
  have h2 := h.tok.nx
  rw [List.take_append_of_le_length (by omega)]
/-- What is acked came. -/
theorem Play.got (h : Play s t Bs pushed) {a : Ak} (ha : AckP a t) : Play (gtS s a) t Bs pushed := by
  have hw := gt_W s a
  have hsub : ∀ e ∈ (gtS s a).L, e ∈ s.L := fun e he => by
    unfold gtS at he
    by_cases hg : gtB s a
    · rw [if_pos hg] at he
      exact (List.mem_filter.1 he).1
    · rw [if_neg hg] at he; exact he
  refine ⟨sdok_got h.sok a, h.tok, h.few, h.num, h.bok, by rw [hw.2]; exact h.snx, h.tnx, fun e he => h.out e (hsub e he), h.held, fun x hx => ?_, by rw [hw.1]; exact h.all⟩
  rcases h.gone x hx with h1 | h1
  · exact .inl h1
  · obtain ⟨e, he, rfl⟩ := List.mem_map.1 h1
    by_cases hg : gtB s a
    · rw [gtS_yes hg]
      by_cases hk : kpt a e = true
      · exact .inr (List.mem_map.2 ⟨e, List.mem_filter.2 ⟨he, hk⟩, rfl⟩)
      · refine .inl ?_
        obtain ⟨i, hi, _, h3⟩ := h.idx hx
        have h4 := h.few
        exact ha.has e.1.1 (by omega) (by omega) (by unfold kpt at hk; simpa using hk)
    · rw [gtS_no hg]; exact .inr h1
/-- The first one that is out is not behind next. -/
theorem Play.first (h : Play s t Bs pushed) {x : Bt} (hx : x ∈ s.out) (hn : t.nx < Bs.length) : x.1 ≤ t.nx + 15 := by
  have h0 := h.tok.nx
  have hi : t.nx.toNat < Bs.length := by omega
  obtain ⟨z, hz⟩ : ∃ z, Bs[t.nx.toNat] = z := ⟨_, rfl⟩
  have hz1 : z.1 = t.nx := by rw [← hz, h.num _ hi]; omega
  have hzm : z ∈ Bs := hz ▸ List.getElem_mem hi
  have hzo : z ∈ s.out := by
    rcases h.gone z hzm with (h1 | h1) | h1
    · omega
    · obtain ⟨y, hy, e⟩ := List.mem_map.1 h1
      have h2 := (h.tok.near y hy).1
      rw [e, hz1, far_self] at h2
      omega
    · exact h1
  obtain ⟨ez, h1, rfl⟩ := List.mem_map.1 hzo
  obtain ⟨ex, h2, rfl⟩ := List.mem_map.1 hx
  have hw := h.sok.win
  have hf := h.few
  have g1 := h.sok.inw ex h2
  have g2 := h.sok.below ez h1
  have g3 := h.sok.below ex h2
  obtain ⟨i1, j1, _, k1⟩ := h.idx (h.out ez h1)
  obtain ⟨i2, j2, _, k2⟩ := h.idx (h.out ex h2)
  -- the first one is among what was sent
  obtain ⟨f0, hf0, e0⟩ : ∃ f0 ∈ s.L, fstN s = f0.1.1 := by
    cases hL : s.L with
    | nil => rw [hL] at h1; exact absurd h1 List.not_mem_nil
    | cons c l => exact ⟨c, List.mem_cons_self, by unfold fstN; rw [hL]⟩
  obtain ⟨i3, j3, _, k3⟩ := h.idx (h.out f0 hf0)
  have g4 := h.sok.inw ez h1
  have hsn := h.snx
  rw [e0] at g1 g2 g3 g4
  rw [k1] at hz1 g2 g4
  rw [k3] at g1 g2 g3 g4
  rw [k2] at g1 g3 ⊢
  rw [hsn] at g2 g3
  unfold far at g1 g2 g3 g4
  omega
end
end Go.Proofs.YtfiaghfaijlfjaaGreat

namespace Go.Proofs.YtfiaghfaijlfjaaGreat
set_option maxRecDepth 100000
set_option linter.unusedVariables false

/-- The mask of what is held. -/
def mask16 (x : Int) (cs : List Int) : Int := mk x cs 16
section
variable {s : Sd} {t : Tk} {Bs : List Bt} {pushed : List Ob}
theorem mem_nums {H : List Bt} {x : Bt} (h : x ∈ H) : x.1 ∈ nums H := List.mem_map.2 ⟨x, h, rfl⟩
/-- A batch that was sent comes. -/
theorem Play.take (h : Play s t Bs pushed) {x : Bt} (hx : x ∈ Bs) : Play s (takeR t x).2 Bs pushed ∧ toldP (takeR t x).2 Bs = toldP t Bs ++ (takeR t x).1.1 ∧ (∀ n, Came t n → Came (takeR t x).2 n) ∧ t.nx ≤ (takeR t x).2.nx ∧ (x ∈ s.out → Came (takeR t x).2 x.1) := by
  obtain ⟨ix, hix, _, hxi⟩ := h.idx hx
  have hf := h.few
  have hnx := h.tok.nx
  have htn := h.tnx
  by_cases hin : TkIn t x
  · obtain ⟨_, k1, B, k2, k3, k4, k5, k6, k7⟩ := take_ok h.tok hin
    have hl := held_le h.tok
    have hB : ∀ i (hi : i < B.length), B[i] ∈ Bs := fun i hi => by
      rcases (k3 i hi).1 with h1 | h1
      · exact h.held _ h1
      · rw [h1]; exact hx
    have hnum : ∀ i (hi : i < B.length), B[i].1 = t.nx + i := fun i hi => by
      rw [(k3 i hi).2, numAt_flat hnx.1 i (by omega)]
    have hlen : t.nx + B.length ≤ Bs.length := by
      rcases Nat.eq_zero_or_pos B.length with h0 | h0
      · omega
      · have h1 := hnum (B.length - 1) (by omega)
        obtain ⟨j, hj, _, h2⟩ := h.idx (hB (B.length - 1) (by omega))
        omega
    have hnx2 : (takeR t x).2.nx = t.nx + B.length := by rw [k4, numAt_flat hnx.1 _ (by omega)]
    have hBe : B = (Bs.drop t.nx.toNat).take B.length := by
      apply List.ext_getElem
      · rw [List.length_take, List.length_drop]; omega
      · intro i h1 h2
        rw [List.getElem_take, List.getElem_drop]
        refine h.uniq (hB i h1) (List.getElem_mem _) ?_
        rw [hnum i h1, h.num]
        omega
    have hcame : ∀ n, Came t n → Came (takeR t x).2 n := fun n hn => by
      rcases hn with hn | hn
      · exact .inl (by omega)
      · obtain ⟨y, hy, rfl⟩ := List.mem_map.1 hn
        by_cases hyB : y ∈ B
        · obtain ⟨i, hi, rfl⟩ := List.mem_iff_getElem.1 hyB
          exact .inl (by rw [hnum i hi, hnx2]; omega)
        · exact .inr (mem_nums ((k6 y).2 ⟨.inl hy, hyB⟩))
    have hcx : Came (takeR t x).2 x.1 := by
      by_cases hyB : x ∈ B
      · obtain ⟨i, hi, e⟩ := List.mem_iff_getElem.1 hyB
        have h9 := hnum i hi
        rw [e] at h9
        exact .inl (by rw [hnx2]; omega)
      · exact .inr (mem_nums ((k6 x).2 ⟨.inr rfl, hyB⟩))
    refine ⟨⟨h.sok, k1, h.few, h.num, h.bok, h.snx, by rw [hnx2]; exact hlen, h.out, fun y hy => ?_, fun y hy => (h.gone y hy).imp (hcame y.1) (fun e => e), h.all⟩, ?_, hcame, by rw [hnx2]; omega, fun _ => hcx⟩
    · rcases ((k6 y).1 hy).1 with h1 | h1
      · exact h.held y h1
      · rw [h1]; exact hx
    · unfold toldP
      rw [k2, hnx2]
      have e1 : (t.nx + B.length).toNat = t.nx.toNat + B.length := by omega
      rw [e1, List.take_add, List.map_append, List.flatten_append, ← hBe]
  · obtain ⟨e, he, _⟩ := take_no hin
    rw [he]
    refine ⟨h, (List.append_nil _).symm, fun n hn => hn, Int.le_refl _, fun ho => ?_⟩
    -- one that is out and is refused came already
    by_cases h1 : x.1 < t.nx
    · exact .inl h1
    · have h2 : x.1 ≤ t.nx + 15 := h.first ho (by omega)
      have h3 : far t.nx x.1 = x.1 - t.nx := far_up hnx.1 (by omega) (by omega)
      have h4 : ¬ findH t.H x.1 = none := fun h4 => hin ⟨h.bok x hx, by omega, h4⟩
      cases h5 : findH t.H x.1 with
      | none => exact absurd h5 h4
      | some y =>
        obtain ⟨h6, h7⟩ := findH_some h5
        exact .inr (h7 ▸ mem_nums h6)
/-- An ack that is told now. -/
theorem ack_now (h : Play s t Bs pushed) {cs : List Int} (hc : ∀ n, n ∈ cs ↔ n ∈ nums t.H) : AckP (0, 0, t.nx, mask16 t.nx cs) t := by
  have hnx := h.tok.nx
  have hf := h.few
  have htn := h.tnx
  refine ⟨⟨⟨Int.le_refl 0, (show (0 : Int) < 64 by decide)⟩, by show EpOk 0; unfold EpOk; decide, hnx, mk_16 _ _⟩, ⟨hnx.1, Int.le_refl _⟩, fun n h0 h1 hh => ?_⟩
  rcases has_iff.1 hh with h2 | ⟨h2, c, hc1, hc2⟩
  · refine .inl ?_
    show n < t.nx
    have h2' : 1 ≤ far n t.nx ∧ far n t.nx ≤ 32768 := h2
    unfold far at h2'
    omega
  · refine .inr ?_
    have hm := (hc c).1 hc1
    obtain ⟨y, hy, rfl⟩ := List.mem_map.1 hm
    have hr := bt_rng (h.tok.ok y hy)
    have e : y.1 = n := by
      have hc2' : far t.nx y.1 = far t.nx n := hc2
      unfold far at hc2'
      omega
    exact e ▸ hm
/-- What an elder ack says stays true. -/
theorem AckP.later {a : Ak} {t' : Tk} (ha : AckP a t) (hc : ∀ n, Came t n → Came t' n) (hn : t.nx ≤ t'.nx) : AckP a t' :=
  ⟨ha.one, ⟨ha.rng.1, Int.le_trans ha.rng.2 hn⟩, fun n h0 h1 h2 => hc n (ha.has n h0 h1 h2)⟩
/-- All batches of a row come. -/
def takeL : Tk → List Bt → List Ob × Tk
  | t, [] => ([], t)
  | t, x :: l => ((takeR t x).1.1 ++ (takeL (takeR t x).2 l).1, (takeL (takeR t x).2 l).2)
theorem Play.takes : ∀ (l : List Bt) {t : Tk}, Play s t Bs pushed → (∀ x ∈ l, x ∈ Bs) → Play s (takeL t l).2 Bs pushed ∧ toldP (takeL t l).2 Bs = toldP t Bs ++ (takeL t l).1 ∧ (∀ n, Came t n → Came (takeL t l).2 n) ∧ t.nx ≤ (takeL t l).2.nx ∧ (∀ x ∈ l, x ∈ s.out → Came (takeL t l).2 x.1)
  | [], t, h, _ => ⟨h, (List.append_nil _).symm, fun n hn => hn, Int.le_refl _, fun x hx => absurd hx List.not_mem_nil⟩
  | x :: l, t, h, hl => by
    obtain ⟨h1, h2, h3, h4, h5⟩ := h.take (hl x List.mem_cons_self)
    obtain ⟨g1, g2, g3, g4, g5⟩ := Play.takes l h1 (fun y hy => hl y (List.mem_cons_of_mem _ hy))
    refine ⟨g1, ?_, fun n hn => g3 n (h3 n hn), Int.le_trans h4 g4, fun y hy ho => ?_⟩
    · show toldP (takeL (takeR t x).2 l).2 Bs = _
      rw [g2, h2, List.append_assoc]
      rfl
    · rcases List.mem_cons.1 hy with e | hy
      · rw [e]
        exact g3 _ (h5 (e ▸ ho))
      · exact g5 y hy ho
/-- When all that came came: none is held, and all is told. -/
theorem Play.whole (h : Play s t Bs pushed) (hc : ∀ x ∈ Bs, Came t x.1) : t.nx = Bs.length ∧ t.H = [] ∧ toldP t Bs = (Bs.map Prod.snd).flatten := by
  have hnx := h.tok.nx
  have htn := h.tnx
  have hf := h.few
  have e1 : t.nx = Bs.length := by
    rcases Int.lt_or_eq_of_le htn with h1 | h1
    · exfalso
      have hi : t.nx.toNat < Bs.length := by omega
      have hn := h.num t.nx.toNat hi
      rcases hc _ (List.getElem_mem hi) with h2 | h2
      · omega
      · obtain ⟨y, hy, e⟩ := List.mem_map.1 h2
        have h3 := (h.tok.near y hy).1
        have e2 : y.1 = t.nx := by omega
        rw [e2, far_self] at h3
        omega
    · exact h1
  refine ⟨e1, ?_, ?_⟩
  · cases hH : t.H with
    | nil => rfl
    | cons y l =>
      exfalso
      have hy : y ∈ t.H := by rw [hH]; exact List.mem_cons_self
      obtain ⟨i, hi, _, h2⟩ := h.idx (h.held y hy)
      have h3 := h.tok.near y hy
      have h4 := far_down (a := t.nx) (b := y.1) (by omega) (by omega) hnx.2
      omega
  · unfold toldP
    rw [e1, List.take_of_length_le (by omega)]
/-- One round of the end: what is new is sent, all that is out comes, and is told back. -/
theorem Play.round (h : Play s t Bs pushed) (hl : Bs.length + (sdT s).length ≤ 20000) :
    Play (gtS (sdS s) (0, 0, (takeL t (sdS s).out).2.nx, mask16 (takeL t (sdS s).out).2.nx [])) (takeL t (sdS s).out).2 (Bs ++ sdT s) pushed ∧ toldP (takeL t (sdS s).out).2 (Bs ++ sdT s) = toldP t Bs ++ (takeL t (sdS s).out).1 ∧ (gtS (sdS s) (0, 0, (takeL t (sdS s).out).2.nx, mask16 (takeL t (sdS s).out).2.nx [])).L = [] ∧ (takeL t (sdS s).out).2.H = [] ∧ toldP (takeL t (sdS s).out).2 (Bs ++ sdT s) = ((Bs ++ sdT s).map Prod.snd).flatten := by
  have h1 := h.send hl
  have hout : ∀ x ∈ (sdS s).out, x ∈ Bs ++ sdT s := fun x hx => by
    obtain ⟨e, he, rfl⟩ := List.mem_map.1 hx
    exact h1.out e he
  obtain ⟨g1, g2, g3, g4, g5⟩ := Play.takes (sdS s).out h1 hout
  have hall : ∀ x ∈ Bs ++ sdT s, Came (takeL t (sdS s).out).2 x.1 := fun x hx => by
    rcases h1.gone x hx with h2 | h2
    · exact g3 _ h2
    · exact g5 x h2 h2
  obtain ⟨w1, w2, w3⟩ := g1.whole hall
  have ha := ack_now g1 (cs := []) (fun n => by rw [w2]; exact Iff.rfl)
  have g6 := g1.got ha
  refine ⟨g6, by rw [g2, told_send h], ?_, w2, w3⟩
  have hsn := g1.snx
  have hgb : gtB (sdS s) (0, 0, (takeL t (sdS s).out).2.nx, mask16 (takeL t (sdS s).out).2.nx []) := ⟨ha.one, by show far _ (takeL t (sdS s).out).2.nx ≤ far _ _; rw [w1, hsn]; exact Int.le_refl _⟩
  rw [gtS_yes hgb]
  show (sdS s).L.filter _ = []
  rw [List.filter_eq_nil_iff]
  intro e he hk
  obtain ⟨i, hi, _, h2⟩ := g1.idx (h1.out e he)
  have hf := g1.few
  have hn : hasN (takeL t (sdS s).out).2.nx (mask16 (takeL t (sdS s).out).2.nx []) e.1.1 = true := has_iff.2 (.inl (by
    rw [w1, far_up (by omega) (by omega) (by omega)]
    omega))
  unfold kpt at hk
  have hk' : (!hasN (takeL t (sdS s).out).2.nx (mask16 (takeL t (sdS s).out).2.nx []) e.1.1) = true := hk
  rw [hn] at hk'
  cases hk'
/-- Where none is out at least one object is sent, if any waits. -/
theorem send_less (h : SdOk s) (hL : s.L = []) (hW : s.W ≠ []) : (sdS s).W.length < s.W.length := by
  have h1 := congrArg List.length (send_all s)
  rw [List.length_append] at h1
  have h2 : sdT s ≠ [] := fun e => by
    obtain ⟨R, hR, hno⟩ := sdT_split s
    have h3 := packL_all 512 s.W s.nx
    rw [hR, e, List.nil_append] at h3
    cases R with
    | nil => exact hW h3.symm
    | cons p R =>
      have h4 := hno p R rfl
      have hl : 0 < (packL 512 s.W s.nx).length := by rw [hR, e]; exact Nat.zero_lt_succ _
      have hn := packL_num 512 s.W s.nx 0 hl
      rw [lft_nx h, hR, e] at hn
      have hn' : p.1 = s.nx := hn
      have hf : fstN s = s.nx := by unfold fstN; rw [hL]
      rw [hn', hf, far_self] at h4
      have := h.win
      omega
  have h3 : 1 ≤ (((sdT s).map Prod.snd).flatten).length := by
    have h4 : 0 < (sdT s).length := List.length_pos_iff.2 h2
    have h5 := (stk_len h h4).1.2.1.1
    have h6 := flat_ge (sdT s) (fun y hy => by
      obtain ⟨i, hi, rfl⟩ := List.mem_iff_getElem.1 hy
      have h7 := (stk_len h hi).1.2.1.1
      have e : (sdT s).getD i zb = (sdT s)[i] := by simp [List.getD, hi]
      rw [e] at h7
      exact h7)
    omega
  omega
end
end Go.Proofs.YtfiaghfaijlfjaaGreat

namespace Go.Proofs.YtfiaghfaijlfjaaGreat
set_option maxRecDepth 100000
set_option linter.unusedVariables false
open Go.RowKit

/-- What may have turned from w to w', and what is one's own then. -/
def Nx (w w' : World) (G G' : Nat → Prop) : Prop := Chg G w w' ∧ ∀ k, G' k → G k ∨ w.heap.size ≤ k
def PG (Fs Ft : Nat → Prop) (vP vT : Value) : Nat → Prop := fun k => (Fs k ∨ Ft k) ∨ vP.ownBlock = some k ∨ vT.ownBlock = some k
structure PlyE (w0 w : World) (Fs Ft : Nat → Prop) (b1 b2 : Nat) (s : Sd) (t : Tk) (vP vT : Value) (P T : List Ob) : Prop where
  s : PS w Fs b1 s
  t : PT w Ft b2 t
  dis : ∀ k, Fs k → ¬ Ft k
  P : RowF w w0.heap.size (fun k => Fs k ∨ Ft k) vP P
  T : RowF w w0.heap.size (fun k => Fs k ∨ Ft k) vT T
  ap : Apart vP vT
  new : ∀ k, Fs k ∨ Ft k → w0.heap.size ≤ k
  bel : Below w0.heap.size w0 w
def Ply (w0 w : World) (G : Nat → Prop) (b1 b2 : Nat) (s : Sd) (t : Tk) (vP vT : Value) (P T : List Ob) : Prop := ∃ Fs Ft, PlyE w0 w Fs Ft b1 b2 s t vP vT P T ∧ G = PG Fs Ft vP vT
section
variable {w0 w w' : World} {G : Nat → Prop} {b1 b2 : Nat} {s : Sd} {t : Tk} {vP vT : Value} {P T : List Ob} {Fs Ft : Nat → Prop}
theorem PlyE.lt (h : PlyE w0 w Fs Ft b1 b2 s t vP vT P T) : ∀ k, PG Fs Ft vP vT k → k < w.heap.size := fun k hk => by
  rcases hk with (h1 | h1) | h1 | h1
  · exact dc.lt h.s k h1
  · exact h.t.2.lt k h1
  · exact (h.P.lt k h1).2
  · exact (h.T.lt k h1).2
theorem PlyE.newG (h : PlyE w0 w Fs Ft b1 b2 s t vP vT P T) : ∀ k, PG Fs Ft vP vT k → w0.heap.size ≤ k := fun k hk => by
  rcases hk with h1 | h1 | h1
  · exact h.new k h1
  · exact (h.P.lt k h1).1
  · exact (h.T.lt k h1).1
theorem Ply.lt (h : Ply w0 w G b1 b2 s t vP vT P T) : ∀ k, G k → k < w.heap.size := by
  obtain ⟨Fs, Ft, h, rfl⟩ := h
  exact h.lt
theorem Ply.new (h : Ply w0 w G b1 b2 s t vP vT P T) : ∀ k, G k → w0.heap.size ≤ k := by
  obtain ⟨Fs, Ft, h, rfl⟩ := h
  exact h.newG
theorem Ply.bel (h : Ply w0 w G b1 b2 s t vP vT P T) : Below w0.heap.size w0 w := by
  obtain ⟨Fs, Ft, h, rfl⟩ := h
  exact h.bel
theorem Ply.sok (h : Ply w0 w G b1 b2 s t vP vT P T) : SdOk s := by
  obtain ⟨Fs, Ft, h, rfl⟩ := h
  exact dc.ok h.s
/-- Other blocks alone have turned. -/
theorem Ply.kept {H : Nat → Prop} (h : Ply w0 w G b1 b2 s t vP vT P T) (hc : Chg H w w') (hH : ∀ k, G k → ¬ H k) (hn : ∀ k, H k → w0.heap.size ≤ k) : Ply w0 w' G b1 b2 s t vP vT P T := by
  obtain ⟨Fs, Ft, h, rfl⟩ := h
  exact ⟨Fs, Ft, ⟨dc.keep h.s hc (fun k hk => hH k (.inl (.inl hk))), h.t.keep hc (fun k hk => hH k (.inl (.inr hk))), h.dis, ⟨own_chg h.P.own hc (fun g hg => hH g (.inr (.inl hg))), h.P.off⟩, ⟨own_chg h.T.own hc (fun g hg => hH g (.inr (.inr hg))), h.T.off⟩, h.ap, h.new, h.bel.trans (hc.below h.bel.size hn)⟩, rfl⟩
theorem Ply.below (h : Ply w0 w G b1 b2 s t vP vT P T) (hb : Below w.heap.size w w') : Ply w0 w' G b1 b2 s t vP vT P T := h.kept (H := fun _ => False) (chg0 hb) (fun _ _ g => g) (fun _ g => g.elim)
theorem Nx.refl (w : World) (G : Nat → Prop) : Nx w w G G := ⟨Chg.refl _ _, fun k hk => .inl hk⟩
theorem Nx.below {w w' : World} {G : Nat → Prop} (hb : Below w.heap.size w w') : Nx w w' G G := ⟨chg0 hb, fun k hk => .inl hk⟩
theorem Nx.trans {w w' w'' : World} {G G' G'' : Nat → Prop} (h : Nx w w' G G') (k : Nx w' w'' G' G'') : Nx w w'' G G'' :=
  ⟨h.1.trans k.1 (fun x hx hg => (h.2 x hg).elim (fun h => h) (fun h => by omega)), fun x hx => (k.2 x hx).elim (h.2 x) (fun h2 => .inr (by have := h.1.size; omega))⟩
/-- The sender has turned. -/
theorem PlyE.sstep (h : PlyE w0 w Fs Ft b1 b2 s t vP vT P T) {Fs' : Nat → Prop} {s' : Sd} (hc : Chg Fs w w') (hs : PS w' Fs' b1 s') (hF : ∀ k, Fs' k → Fs k ∨ w.heap.size ≤ k) : Ply w0 w' (PG Fs' Ft vP vT) b1 b2 s' t vP vT P T ∧ Nx w w' (PG Fs Ft vP vT) (PG Fs' Ft vP vT) ∧ ∀ k, PG Fs' Ft vP vT k → Fs' k ∨ k < w.heap.size := by
  have hcF : Chg (fun k => Fs k ∨ Ft k) w w' := hc.mono (fun x _ hx => .inl hx)
  have hFF : ∀ k, (Fs' k ∨ Ft k) → (Fs k ∨ Ft k) ∨ w.heap.size ≤ k := fun k hk => hk.elim (fun h1 => (hF k h1).imp .inl (fun e => e)) (fun h1 => .inl (.inr h1))
  refine ⟨⟨Fs', Ft, ⟨hs, h.t.keep hc (fun k hk hs => h.dis k hs hk), fun k hk ht => ?_, h.P.step hcF hFF, h.T.step hcF hFF, h.ap, fun k hk => ?_, h.bel.trans (hc.below h.bel.size (fun k hk => h.new k (.inl hk)))⟩, rfl⟩, ⟨hc.mono (fun x _ hx => .inl (.inl hx)), fun k hk => ?_⟩, fun k hk => ?_⟩
  · rcases hF k hk with h1 | h1
    · exact h.dis k h1 ht
    · have := h.t.2.lt k ht
      omega
  · rcases hFF k hk with h1 | h1
    · exact h.new k h1
    · exact Nat.le_trans h.bel.size h1
  · rcases hk with h1 | h1
    · exact (hFF k h1).imp .inl (fun e => e)
    · exact .inl (.inr h1)
  · rcases hk with (h1 | h1) | h1 | h1
    · exact .inl h1
    · exact .inr (h.t.2.lt k h1)
    · exact .inr (h.P.lt k h1).2
    · exact .inr (h.T.lt k h1).2
/-- The taker has turned. -/
theorem PlyE.tstep (h : PlyE w0 w Fs Ft b1 b2 s t vP vT P T) {Ft' : Nat → Prop} {t' : Tk} (hc : Chg Ft w w') (ht : PT w' Ft' b2 t') (hF : ∀ k, Ft' k → Ft k ∨ w.heap.size ≤ k) : Ply w0 w' (PG Fs Ft' vP vT) b1 b2 s t' vP vT P T ∧ Nx w w' (PG Fs Ft vP vT) (PG Fs Ft' vP vT) := by
  have hcF : Chg (fun k => Fs k ∨ Ft k) w w' := hc.mono (fun x _ hx => .inr hx)
  have hFF : ∀ k, (Fs k ∨ Ft' k) → (Fs k ∨ Ft k) ∨ w.heap.size ≤ k := fun k hk => hk.elim (fun h1 => .inl (.inl h1)) (fun h1 => (hF k h1).imp .inr (fun e => e))
  refine ⟨⟨Fs, Ft', ⟨dc.keep h.s hc (fun k hk ht => h.dis k hk ht), ht, fun k hk ht => ?_, h.P.step hcF hFF, h.T.step hcF hFF, h.ap, fun k hk => ?_, h.bel.trans (hc.below h.bel.size (fun k hk => h.new k (.inr hk)))⟩, rfl⟩, ⟨hc.mono (fun x _ hx => .inl (.inr hx)), fun k hk => ?_⟩⟩
  · rcases hF k ht with h1 | h1
    · exact h.dis k hk h1
    · have := dc.lt h.s k hk
      omega
  · rcases hFF k hk with h1 | h1
    · exact h.new k h1
    · exact Nat.le_trans h.bel.size h1
  · rcases hk with h1 | h1
    · exact (hFF k h1).imp .inl (fun e => e)
    · exact .inl (.inr h1)
theorem ply_push (y : Ob) (h : Ply w0 w G b1 b2 s t vP vT P T) : Calls Tryz.prog 17 #[.pointer (some ⟨b1, 0, none⟩), .agg #[.int .i64 y.k, .int .i64 y.x, .bool y.n, .int .i64 y.t, .int .i64 y.o, .int .i64 y.r, .int .i64 y.d, .int .i64 y.i, .int .i64 y.p, .int .i64 y.q, .int .i64 y.s, .int .i64 y.m]] w fun e w' => e = .returned (.int .i64 (pushR s y).1) ∧ ∃ G', Ply w0 w' G' b1 b2 (pushR s y).2 t vP vT P T ∧ Nx w w' G G' := by
  obtain ⟨Fs, Ft, h, rfl⟩ := h
  refine (dc.push y h.s).mono ?_
  rintro e w' ⟨rfl, hc, F', hp, hF⟩
  obtain ⟨h1, h2, _⟩ := h.sstep hc hp hF
  exact ⟨rfl, _, h1, h2⟩
theorem ply_got (a : Ak) (h : Ply w0 w G b1 b2 s t vP vT P T) : Calls Tryz.prog 20 #[.pointer (some ⟨b1, 0, none⟩), .agg #[.int .i64 a.1, .int .i64 a.2.1, .int .i64 a.2.2.1, .int .i64 a.2.2.2]] w fun e w' => e = .returned (.int .i64 (gtN s a)) ∧ ∃ G', Ply w0 w' G' b1 b2 (gtS s a) t vP vT P T ∧ Nx w w' G G' := by
  obtain ⟨Fs, Ft, h, rfl⟩ := h
  refine (dc.got a h.s).mono ?_
  rintro e w' ⟨rfl, hc, F', hp, hF⟩
  obtain ⟨h1, h2, _⟩ := h.sstep hc hp hF
  exact ⟨rfl, _, h1, h2⟩
theorem ply_send (h : Ply w0 w G b1 b2 s t vP vT P T) : Calls Tryz.prog 18 #[.pointer (some ⟨b1, 0, none⟩)] w fun e w' => ∃ a c, e = .returned (.slice a (sdT s).length c) ∧ ∃ G', Ply w0 w' G' b1 b2 (sdS s) t vP vT P T ∧ Nx w w' G G' ∧ BtsO w' G' (.slice a (sdT s).length c) (sdT s) := by
  obtain ⟨Fs, Ft, h, rfl⟩ := h
  refine (dc.send h.s).mono ?_
  rintro e w' ⟨r, rfl, hc, F', hp, hF, hr⟩
  obtain ⟨h1, h2, h3⟩ := h.sstep hc hp hF
  obtain ⟨a, c, rfl⟩ := hr.form
  exact ⟨a, c, rfl, _, h1, h2, hr.mono h3⟩
theorem ply_again (h : Ply w0 w G b1 b2 s t vP vT P T) : Calls Tryz.prog 19 #[.pointer (some ⟨b1, 0, none⟩)] w fun e w' => ∃ a c, e = .returned (.tuple #[.slice a (agL s).length c, .bool (agB s)]) ∧ ∃ G', Ply w0 w' G' b1 b2 (agS s) t vP vT P T ∧ Nx w w' G G' ∧ BtsO w' G' (.slice a (agL s).length c) (agL s) := by
  obtain ⟨Fs, Ft, h, rfl⟩ := h
  obtain ⟨h0, Z, vW, vO, hz⟩ := h.s
  refine (pagain_any hz h0).mono ?_
  rintro e w' ⟨r, rfl, hc, ⟨Z', hz'⟩, hr⟩
  obtain ⟨h1, h2, h3⟩ := h.sstep hc ⟨sdok_again h0, Z', vW, vO, hz'⟩ (fun k hk => .inl hk)
  obtain ⟨a, c, rfl⟩ := hr.form'
  exact ⟨a, c, rfl, _, h1, h2, rowb_btso hr h.lt⟩
theorem ply_out (h : Ply w0 w G b1 b2 s t vP vT P T) : Calls Tryz.prog 21 #[.pointer (some ⟨b1, 0, none⟩)] w fun e w' => ∃ a c, e = .returned (.slice a s.out.length c) ∧ Ply w0 w' G b1 b2 s t vP vT P T ∧ Below w.heap.size w w' ∧ BtsO w' G (.slice a s.out.length c) s.out := by
  obtain ⟨Fs, Ft, h, rfl⟩ := h
  obtain ⟨h0, Z, vW, vO, hz⟩ := h.s
  refine (pout_any hz h0).mono ?_
  rintro e w' ⟨⟨a, c, rfl, hr⟩, hb⟩
  exact ⟨a, c, rfl, Ply.below ⟨Fs, Ft, h, rfl⟩ hb, hb, rowb_btso hr h.lt⟩
theorem ply_wait (h : Ply w0 w G b1 b2 s t vP vT P T) : Calls Tryz.prog 22 #[.pointer (some ⟨b1, 0, none⟩)] w fun e w' => ∃ a c, e = .returned (.slice a s.W.length c) ∧ Below w.heap.size w w' := by
  obtain ⟨Fs, Ft, h, rfl⟩ := h
  obtain ⟨h0, Z, vW, vO, hz⟩ := h.s
  refine (pwait_any hz (Nat.le_trans h0.wl (by decide))).mono ?_
  rintro e w' ⟨⟨a, c, rfl, hr⟩, hb⟩
  exact ⟨a, c, rfl, hb⟩
theorem ply_ack (h : Ply w0 w G b1 b2 s t vP vT P T) : Calls Tryz.prog 10 #[.pointer (some ⟨b2, 0, none⟩)] w fun e w' => e = .returned (.agg #[.int .i64 0, .int .i64 0, .int .i64 t.nx, .int .i64 (mask16 t.nx (srt t.nx (nums t.H)))]) ∧ ∃ G', Ply w0 w' G' b1 b2 s t vP vT P T ∧ Nx w w' G G' := by
  obtain ⟨Fs, Ft, h, rfl⟩ := h
  refine (tack_any h.t).mono ?_
  rintro e w' ⟨F', rfl, hp, hc, _, hF⟩
  obtain ⟨h1, h2⟩ := h.tstep hc hp hF
  exact ⟨rfl, _, h1, h2⟩
theorem ply_take (n : Int) (v : Value) (ys : List Ob) (h : Ply w0 w G b1 b2 s t vP vT P T) (hv : OsO w G v ys) (hl : ys.length ≤ 3000) : Calls Tryz.prog 7 #[.pointer (some ⟨b2, 0, none⟩), .agg #[.int .i64 n, v]] w fun e w' => ∃ a c, e = .returned (.tuple #[.slice a (takeR t (n, ys)).1.1.length c, .int .i64 (takeR t (n, ys)).1.2]) ∧ ∃ G', Ply w0 w' G' b1 b2 s (takeR t (n, ys)).2 vP vT P T ∧ Nx w w' G G' ∧ Os w' (.slice a (takeR t (n, ys)).1.1.length c) (takeR t (n, ys)).1.1 := by
  obtain ⟨Fs, Ft, h, rfl⟩ := h
  refine (ttake_any n v ys h.t hv.1 (fun a n c e hn hf => (hv.2 a n c e hn).1 (.inl (.inr hf))) hl).mono ?_
  rintro e w' ⟨r, F', rfl, hp, hc, _, hF, hr⟩
  obtain ⟨h1, h2⟩ := h.tstep hc hp hF
  obtain ⟨a, c, rfl⟩ := own_form hr.1
  exact ⟨a, c, rfl, _, h1, h2, hr.1.os⟩
/-- More is pushed. -/
theorem ply_appP (h : Ply w0 w G b1 b2 s t vP vT P T) (u : Value) (ys : List Ob) (hu : Os w u ys) (hl : P.length + ys.length ≤ 30000) (tt : TypeId) : ∃ a c w', (Builtin.append_ #[29, 29] tt #[vP, u]).run Tryz.prog w = .ok (.slice a (P ++ ys).length c) w' ∧ ∃ G', Ply w0 w' G' b1 b2 s t (.slice a (P ++ ys).length c) vT (P ++ ys) T ∧ Nx w w' G G' := by
  obtain ⟨Fs, Ft, h, rfl⟩ := h
  obtain ⟨r, w', hr, ho, hg, hrr⟩ := run_gappo w tt w0.heap.size vP P h.P.own u ys hu hl h.bel.size
  obtain ⟨a, c, rfl⟩ := own_form ho
  have hlt : ∀ k, (Fs k ∨ Ft k) → k < w.heap.size := fun k hk => h.lt k (.inl hk)
  refine ⟨a, c, w', hr, _, ⟨Fs, Ft, ⟨dc.keep h.s (chg_grown hg) (fun k hk e => h.P.off k e (.inl hk)), h.t.keep (chg_grown hg) (fun k hk e => h.P.off k e (.inr hk)), h.dis, h.P.grew ho hlt hrr, h.T.kept hg h.ap.symm, h.ap.grew h.T hrr, h.new, h.bel.grown hg h.bel.size (fun k hk => (h.P.lt k hk).1)⟩, rfl⟩, (chg_grown hg).mono (fun x _ hx => .inr (.inl hx)), fun k hk => ?_⟩
  rcases hk with h1 | h1 | h1
  · exact .inl (.inl h1)
  · exact (hrr k h1).imp (fun e => .inr (.inl e)) (fun e => e)
  · exact .inl (.inr (.inr h1))
/-- More is told. -/
theorem ply_appT (h : Ply w0 w G b1 b2 s t vP vT P T) (u : Value) (ys : List Ob) (hu : Os w u ys) (hl : T.length + ys.length ≤ 30000) (tt : TypeId) : ∃ a c w', (Builtin.append_ #[29, 29] tt #[vT, u]).run Tryz.prog w = .ok (.slice a (T ++ ys).length c) w' ∧ ∃ G', Ply w0 w' G' b1 b2 s t vP (.slice a (T ++ ys).length c) P (T ++ ys) ∧ Nx w w' G G' := by
  obtain ⟨Fs, Ft, h, rfl⟩ := h
  obtain ⟨r, w', hr, ho, hg, hrr⟩ := run_gappo w tt w0.heap.size vT T h.T.own u ys hu hl h.bel.size
  obtain ⟨a, c, rfl⟩ := own_form ho
  have hlt : ∀ k, (Fs k ∨ Ft k) → k < w.heap.size := fun k hk => h.lt k (.inl hk)
  refine ⟨a, c, w', hr, _, ⟨Fs, Ft, ⟨dc.keep h.s (chg_grown hg) (fun k hk e => h.T.off k e (.inl hk)), h.t.keep (chg_grown hg) (fun k hk e => h.T.off k e (.inr hk)), h.dis, h.P.kept hg h.ap, h.T.grew ho hlt hrr, (h.ap.symm.grew h.P hrr).symm, h.new, h.bel.grown hg h.bel.size (fun k hk => (h.T.lt k hk).1)⟩, rfl⟩, (chg_grown hg).mono (fun x _ hx => .inr (.inr hx)), fun k hk => ?_⟩
  rcases hk with h1 | h1 | h1
  · exact .inl (.inl h1)
  · exact .inl (.inr (.inl h1))
  · exact (hrr k h1).imp (fun e => .inr (.inr e)) (fun e => e)
theorem Ply.pos (h : Ply w0 w G b1 b2 s t vP vT P T) : Os w vP P := by
  obtain ⟨Fs, Ft, h, rfl⟩ := h
  exact h.P.own.os
theorem Ply.tos (h : Ply w0 w G b1 b2 s t vP vT P T) : Os w vT T := by
  obtain ⟨Fs, Ft, h, rfl⟩ := h
  exact h.T.own.os
theorem Ply.blk (h : Ply w0 w G b1 b2 s t vP vT P T) : ∀ k, vP.ownBlock = some k ∨ vT.ownBlock = some k → G k := by
  obtain ⟨Fs, Ft, h, rfl⟩ := h
  exact fun k hk => .inr hk
theorem SentR.nx {w w' : World} {S : Nat} {G G' : Nat → Prop} {v : Value} {l : List Bt} (h : SentR w S G v l) (hn : Nx w w' G G') : SentR w' S G' v l := h.step hn.1 hn.2
theorem BtsO.nx {w w' : World} {G G' : Nat → Prop} {v : Value} {l : List Bt} (h : BtsO w G v l) (hn : Nx w w' G G') : BtsO w' G' v l := h.step hn.1 hn.2
/-- More is sent: the row of what is sent alone turns. -/
theorem ply_appS {vS : Value} {L l : List Bt} (h : Ply w0 w G b1 b2 s t vP vT P T) (hs : SentR w w0.heap.size G vS L) (u : Value) (hu : BtsO w G u l) (hl : L.length + l.length ≤ 1000000) (tt : TypeId) : ∃ a c w', (Builtin.append_ #[22, 22] tt #[vS, u]).run Tryz.prog w = .ok (.slice a (L ++ l).length c) w' ∧ SentR w' w0.heap.size G (.slice a (L ++ l).length c) (L ++ l) ∧ Ply w0 w' G b1 b2 s t vP vT P T ∧ w.grownBy w' vS.ownBlock := by
  obtain ⟨r, w', hr, ho, hg⟩ := run_gappb w tt w0.heap.size G vS L hs u l hu h.lt hl h.bel.size
  obtain ⟨a, c, rfl⟩ := ho.form
  refine ⟨a, c, w', hr, ho, h.kept (chg_grown hg) (fun k hk e => hs.1 k e hk) (fun k hk => ?_), hg⟩
  obtain ⟨_, vs, _, h2, _⟩ := hs
  exact (World.ownsRow.lt h2 k hk).1
end
theorem ply_new {w0 w w' : World} {Fs Ft : Nat → Prop} {b1 b2 : Nat} {s : Sd} {t : Tk} (hs : PS w Fs b1 s) (hFs : ∀ k, Fs k → w0.heap.size ≤ k) (hb : Below w0.heap.size w0 w) (ht : PT w' Ft b2 t) (hFt : ∀ k, Ft k → w.heap.size ≤ k) (hb' : Below w.heap.size w w') : Ply w0 w' (PG Fs Ft (.slice none 0 0) (.slice none 0 0)) b1 b2 s t (.slice none 0 0) (.slice none 0 0) [] [] := by
  refine ⟨Fs, Ft, ⟨dc.keep hs (G := fun _ => False) (chg0 hb') (fun _ _ g => g), ht, fun k h1 h2 => ?_, RowF_nil _ _ _, RowF_nil _ _ _, fun g hg => (by cases hg), fun k hk => ?_, hb.trans (hb'.mono hb.size)⟩, rfl⟩
  · have := dc.lt hs k h1
    have := hFt k h2
    omega
  · exact hk.elim (hFs k) (fun h => Nat.le_trans hb.size (hFt k h))
end Go.Proofs.YtfiaghfaijlfjaaGreat

namespace Go.Proofs.YtfiaghfaijlfjaaGreat
set_option maxRecDepth 100000
set_option linter.unusedVariables false
open Go.RowKit

open Go.WideShapes Go.ChangeShapes
theorem underST : Tryz.prog.underlying 55 = some (.struct (Tryz.prog.fieldsOf 55)) := by kernel_rfl
theorem underSTS : Tryz.prog.underlying 43 = some (.slice 55) := by kernel_rfl
theorem infoST : (Tryz.prog.info? 55).map (fun i => (i.zero, i.size, i.bytes)) = some (some (.agg #[.int .i64 0, .int .i64 0, .int .i64 0, .bool false, .int .i64 0, .int .i64 0, .int .i64 0, .int .i64 0, .int .i64 0, .int .i64 0, .int .i64 0, .int .i64 0, .int .i64 0, .int .i64 0]), 14, 112) := by kernel_rfl
theorem cellsST : Tryz.prog.cellsOf 55 = 14 := by kernel_rfl
theorem list14 {cs : List Value} (h : cs.length = 14) : ∃ c0 c1 c2 c3 c4 c5 c6 c7 c8 c9 c10 c11 c12 c13, cs = [c0, c1, c2, c3, c4, c5, c6, c7, c8, c9, c10, c11, c12, c13] := by
  match cs, h with
  | [c0, c1, c2, c3, c4, c5, c6, c7, c8, c9, c10, c11, c12, c13], _ => exact ⟨c0, c1, c2, c3, c4, c5, c6, c7, c8, c9, c10, c11, c12, c13, rfl⟩
/-- A step: which, of what object, of what number. -/
abbrev Stp := Int × Ob × Int
def stc (o : Stp) : List Value := .int .i64 o.1 :: (o.2.1.cl ++ [.int .i64 o.2.2])
theorem stc_ones : ∀ o, ∀ u ∈ stc o, u.oneCell' = true := by
  intro o u hu
  simp only [stc, Ob.cl, List.mem_cons, List.mem_append, List.not_mem_nil, or_false] at hu
  rcases hu with rfl | (rfl | rfl | rfl | rfl | rfl | rfl | rfl | rfl | rfl | rfl | rfl | rfl) | rfl <;> rfl
noncomputable def RST : RowT where
  α := Stp
  d := (0, z12, 0)
  cl := stc
  K := 14
  T := 55
  SL := 43
  zero := .agg #[.int .i64 0, .int .i64 0, .int .i64 0, .bool false, .int .i64 0, .int .i64 0, .int .i64 0, .int .i64 0, .int .i64 0, .int .i64 0, .int .i64 0, .int .i64 0, .int .i64 0, .int .i64 0]
  bytes := 112
  hcl := fun _ => rfl
  hK := by decide
  hone := stc_ones
  hSL := underSTS
  hinfo := infoST
  hz := rfl
  hb := by decide
  hc := cellsST
def Sps (w : World) (v : Value) (l : List Stp) : Prop := Gs RST w v l
theorem Sps.below {w w' : World} {v : Value} {l : List Stp} (h : Sps w v l) (hb : Below w.heap.size w w') : Sps w' v l := Gs.below (R := RST) h hb
theorem st_trod {H : Type} {enc : TypeId × Value → H} {w : World} {base n' : Nat} {spare : Nat → Bool} {held : Bool} {cs : List Value} {X : DataW H × List MemPlace} (hl14 : cs.length = 14)
    (hf : DataW.trod enc Tryz.prog w base spare held n' 55 cs = some X) : ∃ o : Stp, cs = stc o := by
  obtain ⟨c0, c1, c2, c3, c4, c5, c6, c7, c8, c9, c10, c11, c12, c13, rfl⟩ := list14 hl14
  obtain ⟨xs, M, _, _, _, hl, hx⟩ := DataW.trod_struct underST hf
  obtain ⟨k, rfl, _⟩ := int_cell (cell_form (j := 0) (T := 3) (O := 0) (v := c0) hl hx (by kernel_rfl) (by kernel_rfl) rfl)
  obtain ⟨yo, ho⟩ := part_form (j := 1) (T := 53) (O := 1) (K := 12) hl hx (by kernel_rfl) (by kernel_rfl)
  obtain ⟨n, rfl, _⟩ := int_cell (cell_form (j := 2) (T := 3) (O := 13) (v := c13) hl hx (by kernel_rfl) (by kernel_rfl) rfl)
  obtain ⟨y, hy⟩ := cl_form rfl ho
  refine ⟨(k, y, n), ?_⟩
  show _ = .int .i64 k :: (y.cl ++ [.int .i64 n])
  rw [← hy]
  rfl
theorem sps_form {H : Type} {enc : TypeId × Value → H} {w : World} {base : Nat} {spare : Nat → Bool} {held : Bool} {x : Option Addr} {l c : Nat} {d : DataW H} {p : List MemPlace}
    (h : DataW.Trod enc Tryz.prog w base spare held 43 (.slice x l c) d p) : ∃ ys : List Stp, ys.length = l ∧ Sps w (.slice x l c) ys := by
  obtain ⟨fuel, hf⟩ := h
  obtain ⟨a, cap, ys, h1, h2⟩ := gs_trod (R := RST) (u := .slice x l c) (fun n' cs X h1 h2 => st_trod h1 h2) hf
  simp only [Value.slice.injEq] at h1
  have hl : l = List.length (α := Stp) ys := h1.2.1
  exact ⟨ys, hl.symm, h2⟩
theorem Sps.at {w : World} {a : Option Addr} {c : Nat} {l : List Stp} (h : Sps w (.slice a l.length c) l) {i : Nat} (hi : i < l.length) : ∃ b off, a = some ⟨b, off, none⟩ ∧ b < w.heap.size ∧ ∀ j, j < 14 → w.cell? ⟨b, off + i * 14 + j, none⟩ = (stc (l.getD i (0, z12, 0)))[j]? := by
  obtain ⟨b, off, h1, h2, h3⟩ := Gs.at (R := RST) h hi
  exact ⟨b, off, h1, h2, fun j hj => h3 j hj⟩
-- acks
theorem underAKS : Tryz.prog.underlying 47 = some (.slice 37) := by kernel_rfl
theorem infoAK9 : (Tryz.prog.info? 37).map (fun i => (i.zero, i.size, i.bytes)) = some (some (.agg #[.int .i64 0, .int .i64 0, .int .i64 0, .int .i64 0]), 4, 32) := by kernel_rfl
theorem cellsAK9 : Tryz.prog.cellsOf 37 = 4 := by kernel_rfl
theorem akc_ones : ∀ o, ∀ u ∈ akc o, u.oneCell' = true := by
  intro o u hu
  simp only [akc, List.mem_cons, List.not_mem_nil, or_false] at hu
  rcases hu with rfl | rfl | rfl | rfl <;> rfl
noncomputable def RAK : RowT where
  α := Ak
  d := (0, 0, 0, 0)
  cl := akc
  K := 4
  T := 37
  SL := 47
  zero := .agg #[.int .i64 0, .int .i64 0, .int .i64 0, .int .i64 0]
  bytes := 32
  hcl := fun _ => rfl
  hK := by decide
  hone := akc_ones
  hSL := underAKS
  hinfo := infoAK9
  hz := rfl
  hb := by decide
  hc := cellsAK9
/-- A row of acks of one's own, off the blocks of G. -/
def AkR (w : World) (S : Nat) (G : Nat → Prop) (v : Value) (l : List Ak) : Prop := w.ownsRow S 37 4 v l.length (gflat RAK l) ∧ ∀ g, v.ownBlock = some g → ¬ G g
section
variable {w w' : World} {S : Nat} {G G' : Nat → Prop} {v : Value} {l : List Ak}
theorem AkR.nx (h : AkR w S G v l) (hn : Nx w w' G G') : AkR w' S G' v l := ⟨own_chg h.1 hn.1 h.2, fun g hg hk => (hn.2 g hk).elim (h.2 g hg) (fun h2 => by have := (World.ownsRow.lt h.1 g hg).2; omega)⟩
theorem AkR.below (h : AkR w S G v l) (hb : Below w.heap.size w w') : AkR w' S G v l := ⟨gown_below h.1 hb, h.2⟩
theorem AkR.form (h : AkR w S G v l) : ∃ a c, v = .slice a l.length c := gown_form h.1
/-- The row of what is sent has grown. -/
theorem AkR.grown {vS : Value} {L : List Bt} (h : AkR w S G v l) (hs : SentR w S G vS L) (hg : w.grownBy w' vS.ownBlock) : AkR w' S G v l := by
  obtain ⟨_, vs, _, k2, _⟩ := hs
  exact ⟨own_chg h.1 (chg_grown hg) (fun g h1 h2 => (own_blk h.1 h1).ne (own_blk k2 h2) (by decide) rfl), h.2⟩
theorem AkR.at {a : Option Addr} {c : Nat} (h : AkR w S G (.slice a l.length c) l) {i : Nat} (hi : i < l.length) : ∃ b, a = some ⟨b, 0, none⟩ ∧ l.length ≤ c ∧ ∀ j, j < 4 → w.cell? ⟨b, 0 + i * 4 + j, none⟩ = (akc (l.getD i (0, 0, 0, 0)))[j]? := by
  have hgs := (Gs_of_own (R := RAK) h.1).1
  obtain ⟨b, off, h1, h2, h3⟩ := Gs.at (R := RAK) hgs hi
  rcases h.1.2 with ⟨h4, h5⟩ | ⟨g, cap, cur, h4, k1, k2, k3, k4, _⟩
  · omega
  · simp only [Value.slice.injEq] at h4
    obtain ⟨rfl, -, rfl⟩ := h4
    cases h1
    exact ⟨_, rfl, by omega, fun j hj => h3 j hj⟩
end
section
variable {w0 w w' : World} {G : Nat → Prop} {b1 b2 : Nat} {s : Sd} {t : Tk} {vP vT : Value} {P T : List Ob} {vA vS : Value} {l : List Ak} {L : List Bt}
/-- One ack more. -/
theorem ply_appA (h : Ply w0 w G b1 b2 s t vP vT P T) (hs : SentR w w0.heap.size G vS L) (ha : AkR w w0.heap.size G vA l) (b : Nat) (x : Ak) (hx : GC RAK w b 0 x) (hl : l.length ≤ 3000) (tt : TypeId) : ∃ a c w', (Builtin.append_ #[47, 47] tt #[vA, .slice (some ⟨b, 0, none⟩) 1 1]).run Tryz.prog w = .ok (.slice a (l ++ [x]).length c) w' ∧ AkR w' w0.heap.size G (.slice a (l ++ [x]).length c) (l ++ [x]) ∧ SentR w' w0.heap.size G vS L ∧ Ply w0 w' G b1 b2 s t vP vT P T := by
  obtain ⟨g, cap, w', hr, ho, hg, _, hgg⟩ := run_gappr (R := RAK) w w0.heap.size vA l ha.1 b x hx hl h.bel.size (ty := tt)
  have e : (l ++ [x]).length = l.length + 1 := by simp
  refine ⟨some ⟨g, 0, none⟩, cap, w', by rw [e]; exact hr, ⟨by
    have ho2 : w'.ownsRow w0.heap.size 37 4 (.slice (some ⟨g, 0, none⟩) (l.length + 1) cap) (l ++ [x]).length (gflat RAK (l ++ [x])) := ho
    rw [← e] at ho2
    exact ho2, fun k hk hG => ?_⟩, ?_, h.kept (chg_grown hg) (fun k hk e => ha.2 k e hk) (fun k hk => (World.ownsRow.lt ha.1 k hk).1)⟩
  · cases hk
    rcases hgg with h1 | h1
    · exact ha.2 g h1 hG
    · have := h.lt g hG
      omega
  · obtain ⟨k0, vs, k1, k2, k3⟩ := hs
    have hrow : ∀ g, vA.ownBlock = some g → BlkT w g 37 := fun g hg => own_blk ha.1 hg
    refine ⟨k0, vs, k1, own_chg k2 (chg_grown hg) (fun g h1 h2 => (own_blk k2 h1).ne (hrow g h2) (by decide) rfl), fun i hi => ⟨(k3 i hi).1, (k3 i hi).2.1, ?_⟩⟩
    have h9 := (k3 i hi).2.2
    have hne : ∀ a n c, (vs.getD i zv).2 = .slice (some a) n c → (L.getD i zb).2 ≠ [] → ¬ vA.ownBlock = some a.block := fun a n c e hn e2 => by
      obtain ⟨_, cur, fz, h2⟩ := h9.2 a n c e hn
      exact BlkT.ne ⟨cur, fz, h2⟩ (hrow _ e2) (by decide) rfl
    refine ⟨h9.1.chg (chg_grown hg) (fun a n c e hn => hne a n c e hn), fun a n c e hn => ?_⟩
    obtain ⟨h1, cur, fz, h2⟩ := h9.2 a n c e hn
    exact ⟨h1, cur, fz, (hg.block a.block (some_lt h2) (fun e2 => hne a n c e hn e2.symm)).trans h2⟩
/-- The first ack. -/
theorem akr_one (S : Nat) (x : Ak) (hS : S ≤ w.heap.size) (hG : ∀ k, G k → k < w.heap.size) : AkR (w.alloc (.cells (akc x).toArray 37)) S G (.slice (some ⟨w.heap.size, 0, none⟩) 1 1) [x] := by
  refine ⟨?_, fun g hg hk => ?_⟩
  · have h := World.ownsRow_lit (e := 37) (size := 4) w (akc x).toArray 1 hS (by decide) rfl
    show World.ownsRow _ _ _ _ _ 1 _
    have e : gflat RAK [x] = akc x := gflat_one (R := RAK) x
    exact (congrArg (fun z => World.ownsRow (w.alloc (.cells (akc x).toArray 37)) S 37 4 (.slice (some ⟨w.heap.size, 0, none⟩) 1 1) 1 z) e).mpr h
  · cases hg
    exact absurd (hG _ hk) (Nat.lt_irrefl _)
theorem sentr_at {S : Nat} {a : Option Addr} {c : Nat} (h : SentR w S G (.slice a L.length c) L) {i : Nat} (hi : i < L.length) : ∃ b u, a = some ⟨b, 0, none⟩ ∧ L.length ≤ c ∧ w.cell? ⟨b, 0 + i * 2, none⟩ = some (.int .i64 (L.getD i zb).1) ∧ w.cell? ⟨b, 0 + i * 2 + 1, none⟩ = some u ∧ OsO w G u (L.getD i zb).2 := by
  obtain ⟨h0, vs, h1, h2, h3⟩ := h
  rcases h2.2 with ⟨h4, h5⟩ | ⟨g, cap, cur, h4, k1, hg, k3, k4, hcs, htake⟩
  · omega
  · simp only [Value.slice.injEq] at h4
    obtain ⟨rfl, -, rfl⟩ := h4
    have hc : ∀ j, j < 2 → w.cell? ⟨g, 0 + i * 2 + j, none⟩ = (c2 (vs.getD i zv))[j]? := fun j hj => by
      rw [cell_of_row w g _ cur 34 (0, 0) hg, Nat.zero_add, ← flat2_at vs i j (by omega) hj, ← htake, List.getElem?_take, if_pos (by omega)]
      simp
    obtain ⟨q1, q2, q3⟩ := h3 i hi
    exact ⟨g, (vs.getD i zv).2, rfl, by omega, by rw [← q1]; exact hc 0 (by decide), hc 1 (by decide), q3⟩
end
end Go.Proofs.YtfiaghfaijlfjaaGreat

namespace Go.Proofs.YtfiaghfaijlfjaaGreat
set_option maxRecDepth 100000
set_option linter.unusedVariables false
open Go.RowKit

section
variable {s : Sd} {t : Tk} {Bs : List Bt} {P : List Ob}
theorem Play.fewer (h : Play s t Bs P) : Bs.length ≤ P.length := by
  have h1 := congrArg List.length h.all
  rw [List.length_append] at h1
  have h2 := flat_ge Bs (fun y hy => (h.bok y hy).2.1.1)
  omega
theorem Play.pre (h : Play s t Bs P) : ∃ R, P = toldP t Bs ++ R := by
  refine ⟨((Bs.drop t.nx.toNat).map Prod.snd).flatten ++ s.W, ?_⟩
  unfold toldP
  rw [← List.append_assoc, ← List.flatten_append, ← List.map_append, List.take_append_drop]
  exact h.all.symm
structure Pla (s : Sd) (t : Tk) (Bs : List Bt) (P T : List Ob) (L : List Bt) (As : List Ak) (k : Nat) : Prop where
  play : Play s t Bs P
  told : T = toldP t Bs
  sn : ∀ x ∈ L, x ∈ Bs
  ak : ∀ a ∈ As, AckP a t
  an : 1 ≤ As.length ∧ As.length ≤ k + 1
  pl : P.length ≤ k
  sl : L.length ≤ 16 * k
variable {T : List Ob} {L : List Bt} {As : List Ak} {k : Nat}
theorem Pla.up (h : Pla s t Bs P T L As k) : Pla s t Bs P T L As (k + 1) := ⟨h.play, h.told, h.sn, h.ak, ⟨h.an.1, by have := h.an.2; omega⟩, by have := h.pl; omega, by have := h.sl; omega⟩
theorem Pla.pre (h : Pla s t Bs P T L As k) : T.length ≤ P.length ∧ P.take T.length = T := by
  obtain ⟨R, hR⟩ := h.play.pre
  rw [← h.told] at hR
  subst hR
  exact ⟨by rw [List.length_append]; omega, by simp⟩
theorem left_near (h : Play s t Bs P) : ∀ n, n ∈ srt t.nx (nums t.H) ↔ n ∈ nums t.H := fun n => by
  rw [srt_mem]
  have hl : ∀ a ∈ nums t.H, left a = a := fun a ha => by
    obtain ⟨y, hy, rfl⟩ := List.mem_map.1 ha
    have := bt_rng (h.tok.ok y hy)
    unfold left
    omega
  constructor
  · rintro ⟨a, ha, rfl⟩
    rw [hl a ha]
    exact ha
  · exact fun ha => ⟨n, ha, hl n ha⟩
theorem pla_new {win tries : Int} (hn : nwOk win tries) : Pla (sd0 win tries) tk0 [] [] [] [] [(0, 0, 0, mask16 0 (srt 0 (nums tk0.H)))] 0 := by
  have h := play_new hn
  refine ⟨h, rfl, fun x hx => absurd hx List.not_mem_nil, fun a ha => ?_, ⟨Nat.le_refl _, Nat.le_refl _⟩, Nat.le_refl _, Nat.le_refl _⟩
  rcases List.mem_singleton.1 ha with rfl
  exact ack_now h (left_near h)
theorem Pla.push (h : Pla s t Bs P T L As k) (y : Ob) : Pla (pushR s y).2 t Bs (if (pushR s y).1 = 0 then P ++ [y] else P) T L As (k + 1) := by
  have h1 := h.up
  refine ⟨h.play.push y, h.told, h.sn, h.ak, h1.an, ?_, h1.sl⟩
  have := h.pl
  split
  · rw [List.length_append]; show P.length + 1 ≤ _; omega
  · omega
theorem Pla.send (h : Pla s t Bs P T L As k) (hk : k ≤ 60) : Pla (sdS s) t (Bs ++ sdT s) P T (L ++ sdT s) As (k + 1) := by
  have h1 := h.up
  have h2 := sdT_len h.play.sok
  have h3 := h.play.fewer
  have h4 := h.pl
  have h5 := h.sl
  refine ⟨h.play.send (by omega), by rw [told_send h.play]; exact h.told, fun x hx => ?_, h.ak, h1.an, h1.pl, by rw [List.length_append]; omega⟩
  rcases List.mem_append.1 hx with h6 | h6
  · exact List.mem_append_left _ (h.sn x h6)
  · exact List.mem_append_right _ h6
theorem Pla.again (h : Pla s t Bs P T L As k) : Pla (agS s) t Bs P T (L ++ agL s) As (k + 1) := by
  have h1 := h.up
  have h2 := out_le h.play.sok
  have h3 := h.play.sok.win
  have h5 := h.sl
  have h4 : (agL s).length ≤ 16 := by
    unfold agL
    split
    · omega
    · exact Nat.zero_le _
  refine ⟨h.play.again, h.told, fun x hx => ?_, h.ak, h1.an, h1.pl, by rw [List.length_append]; omega⟩
  rcases List.mem_append.1 hx with h6 | h6
  · exact h.sn x h6
  · unfold agL at h6
    split at h6
    · obtain ⟨e, he, rfl⟩ := List.mem_map.1 h6
      exact h.play.out e he
    · exact absurd h6 List.not_mem_nil
theorem Pla.take (h : Pla s t Bs P T L As k) {x : Bt} (hx : x ∈ L) : Pla s (takeR t x).2 Bs P (T ++ (takeR t x).1.1) L As k := by
  obtain ⟨h1, h2, h3, h4, _⟩ := h.play.take (h.sn x hx)
  exact ⟨h1, by rw [h2, h.told], h.sn, fun a ha => (h.ak a ha).later h3 h4, h.an, h.pl, h.sl⟩
theorem Pla.ack (h : Pla s t Bs P T L As k) : Pla s t Bs P T L (As ++ [(0, 0, t.nx, mask16 t.nx (srt t.nx (nums t.H)))]) (k + 1) := by
  have h1 := h.up
  refine ⟨h.play, h.told, h.sn, fun a ha => ?_, ⟨by rw [List.length_append]; show 1 ≤ As.length + 1; omega, by rw [List.length_append]; have := h.an.2; show As.length + 1 ≤ _; omega⟩, h1.pl, h1.sl⟩
  rcases List.mem_append.1 ha with h6 | h6
  · exact h.ak a h6
  · rcases List.mem_singleton.1 h6 with rfl
    exact ack_now h.play (left_near h.play)
theorem Pla.got (h : Pla s t Bs P T L As k) {a : Ak} (ha : a ∈ As) : Pla (gtS s a) t Bs P T L As (k + 1) := by
  have h1 := h.up
  exact ⟨h.play.got (h.ak a ha), h.told, h.sn, h.ak, h1.an, h1.pl, h1.sl⟩
theorem Pla.batch (h : Pla s t Bs P T L As k) {x : Bt} (hx : x ∈ L) : x.2.length ≤ 32 := (h.play.bok x (h.sn x hx)).2.1.2
/-- The end: i rounds are through. -/
structure Fin (s : Sd) (t : Tk) (Bs : List Bt) (P T : List Ob) (i : Nat) : Prop where
  play : Play s t Bs P
  told : T = toldP t Bs
  pl : P.length ≤ 60
  all : 1 ≤ i → s.L = [] ∧ t.H = [] ∧ T = (Bs.map Prod.snd).flatten ∧ (s.W = [] ∨ s.W.length + i ≤ 61)
theorem Pla.fin (h : Pla s t Bs P T L As k) (hk : k ≤ 60) : Fin s t Bs P T 0 := ⟨h.play, h.told, by have := h.pl; omega, fun h => by omega⟩
/-- Through a round: some of what is out has come. -/
structure Mid9 (s : Sd) (t0 t : Tk) (Bs : List Bt) (P T : List Ob) (j : Nat) : Prop where
  tk : t = (takeL t0 (s.out.take j)).2
  told : T = toldP t Bs
theorem takeL_snoc : ∀ (l : List Bt) (t : Tk) (x : Bt), takeL t (l ++ [x]) = ((takeL t l).1 ++ (takeR (takeL t l).2 x).1.1, (takeR (takeL t l).2 x).2)
  | [], t, x => by show ((takeR t x).1.1 ++ [], _) = _; rw [List.append_nil]; rfl
  | y :: l, t, x => by
    show ((takeR t y).1.1 ++ (takeL (takeR t y).2 (l ++ [x])).1, (takeL (takeR t y).2 (l ++ [x])).2) = _
    rw [takeL_snoc l _ x]
    show _ = ((((takeR t y).1.1 ++ (takeL (takeR t y).2 l).1) ++ _), _)
    rw [List.append_assoc]
    rfl
/-- What the inner loop keeps. -/
theorem mid9_step (h : Play s t Bs P) (hs : ∀ x ∈ s.out, x ∈ Bs) {j : Nat} (hj : j < s.out.length) {t1 : Tk} {T1 : List Ob} (h1 : t1 = (takeL t (s.out.take j)).2) (h2 : T1 = toldP t Bs ++ (takeL t (s.out.take j)).1) {x : Bt} (hx : s.out.getD j zb = x) : (takeR t1 x).2 = (takeL t (s.out.take (j + 1))).2 ∧ T1 ++ (takeR t1 x).1.1 = toldP t Bs ++ (takeL t (s.out.take (j + 1))).1 := by
  have e : s.out.take (j + 1) = s.out.take j ++ [x] := by
    rw [List.take_add_one]
    congr 1
    rw [← hx, List.getD_eq_getElem?_getD, List.getElem?_eq_getElem hj]
    rfl
  rw [e, takeL_snoc, h1, h2]
  exact ⟨rfl, List.append_assoc ..⟩
theorem Fin.send {i : Nat} (h : Fin s t Bs P T i) : Play (sdS s) t (Bs ++ sdT s) P := h.play.send (by have h2 := sdT_len h.play.sok; have h3 := h.play.fewer; have h4 := h.pl; omega)
theorem Fin.round {i : Nat} (h : Fin s t Bs P T i) : Fin (gtS (sdS s) (0, 0, (takeL t (sdS s).out).2.nx, mask16 (takeL t (sdS s).out).2.nx (srt (takeL t (sdS s).out).2.nx (nums (takeL t (sdS s).out).2.H)))) (takeL t (sdS s).out).2 (Bs ++ sdT s) P (T ++ (takeL t (sdS s).out).1) (i + 1) := by
  have hl : Bs.length + (sdT s).length ≤ 20000 := by have h2 := sdT_len h.play.sok; have h3 := h.play.fewer; have h4 := h.pl; omega
  obtain ⟨h1, h2, h3, h4, h5⟩ := h.play.round hl
  have e : srt (takeL t (sdS s).out).2.nx (nums (takeL t (sdS s).out).2.H) = [] := by
    rw [h4]
    cases hc : srt (takeL t (sdS s).out).2.nx (nums []) with
    | nil => rfl
    | cons c l =>
      have h6 : c ∈ srt (takeL t (sdS s).out).2.nx (nums []) := by rw [hc]; exact List.mem_cons_self
      obtain ⟨a, ha, _⟩ := (srt_mem _ _ _).1 h6
      exact absurd ha List.not_mem_nil
  rw [e]
  refine ⟨h1, by rw [h2, h.told], h.pl, fun _ => ⟨h3, h4, by rw [← h5, h2, h.told], ?_⟩⟩
  rw [(gt_W _ _).1]
  by_cases hi : 1 ≤ i
  · obtain ⟨g1, g2, g3, g4⟩ := h.all hi
    by_cases hW : s.W = []
    · refine .inl ?_
      have h6 := congrArg List.length (send_all s)
      rw [List.length_append, hW] at h6
      exact List.eq_nil_of_length_eq_zero (by have h7 : (([] : List Ob)).length = 0 := rfl; omega)
    · have h6 := send_less h.play.sok g1 hW
      rcases g4 with g4 | g4
      · exact absurd g4 hW
      · exact .inr (by omega)
  · refine .inr ?_
    have h6 := congrArg List.length (send_all s)
    have h7 := congrArg List.length h.play.all
    rw [List.length_append] at h6 h7
    have := h.pl
    omega
theorem Fin.whole (h : Fin s t Bs P T 70) : T = P ∧ s.out = [] ∧ s.W = [] := by
  obtain ⟨g1, g2, g3, g4⟩ := h.all (by decide)
  have hW : s.W = [] := by
    rcases g4 with g4 | g4
    · exact g4
    · omega
  refine ⟨?_, by unfold Sd.out; rw [g1]; rfl, hW⟩
  have h1 := h.play.all
  rw [hW, List.append_nil] at h1
  rw [g3, h1]
end
end Go.Proofs.YtfiaghfaijlfjaaGreat
