/- Rows of batches and of marks that the law makes. No conditions but on lengths. A taker: batches 0, 1, 2 .. that come in any order. No conditions. -/
import Derived.Test.YtfiaghfaijlfjaaPc
import Derived.Laws.MakeOwn
namespace Go.Proofs.Ytfiaghfaijlfjaa
set_option maxRecDepth 100000
set_option linter.unusedVariables false
open Go.RowKit

open Go.Maps
theorem BlkT.ne {w : World} {k k' : Nat} {t t' : TypeId} (h : BlkT w k t) (h' : BlkT w k' t') (ht : t ≠ t') : k ≠ k' := fun e => by
  subst e
  obtain ⟨c, f, h1⟩ := h
  obtain ⟨c', f', h2⟩ := h'
  rw [h1] at h2
  cases h2
  exact ht rfl
theorem BlkT.chg {F : Nat → Prop} {w w' : World} {k : Nat} {t : TypeId} (h : BlkT w k t) (hc : Chg F w w') (hk : ¬ F k) : BlkT w' k t := by
  obtain ⟨c, f, h1⟩ := h
  exact ⟨c, f, (hc.block k (some_lt h1) hk).trans h1⟩
theorem own_blk {w : World} {S size n g : Nat} {e : TypeId} {v : Value} {xs : List Value} (h : w.ownsRow S e size v n xs) (hg : v.ownBlock = some g) : BlkT w g e := by
  rcases h.2 with ⟨rfl, _⟩ | ⟨g', cap, cur, rfl, _, hh, _⟩
  · cases hg
  · cases hg
    exact ⟨cur, (0, 0), hh⟩
def rbw {w0 : World} (n : Int) (ys : List Ob) (u : Value) (hu : u.oneCell' = true) (ho : Os w0 u ys) : (RBW w0).α := ⟨((n, ys), u), hu, ho⟩
/-- One batch more, its objects another's. -/
theorem run_rb {w0 w : World} (S : Nat) (v : Value) (xs : List (RBW w0).α) (hown : w.ownsRow S (RBW w0).T (RBW w0).K v xs.length (gflat (RBW w0) xs)) (n : Int) (u : Value) (ys : List Ob) (hu : u.oneCell' = true) (ho : Os w0 u ys) (hl : xs.length ≤ 3000) (hS : S ≤ w.heap.size) {ty : TypeId} :
    ∃ g cap w', (Builtin.append_ #[24, 24] ty #[v, .slice (some ⟨w.heap.size, 0, none⟩) 1 1]).run Try.prog (w.alloc (.cells #[.int .i64 n, u] 27)) = .ok (.slice (some ⟨g, 0, none⟩) (xs.length + 1) cap) w' ∧ w'.ownsRow S (RBW w0).T (RBW w0).K (.slice (some ⟨g, 0, none⟩) (xs.length + 1) cap) (xs ++ [rbw n ys u hu ho]).length (gflat (RBW w0) (xs ++ [rbw n ys u hu ho])) ∧ Below S w w' := by
  have hb : Below w.heap.size w (w.alloc (.cells #[.int .i64 n, u] 27)) := (Below.refl _ w).alloc (Nat.le_refl _) _
  obtain ⟨g, cap, w', h1, h2, h3, _⟩ := run_gapp (R := RBW w0) (w.alloc (.cells #[.int .i64 n, u] 27)) ty S v xs (gown_below hown hb) w.heap.size (rbw n ys u hu ho) (gc_alloc (RBW w0) w (rbw n ys u hu ho) _ rfl 27) hl (Nat.le_trans hS hb.size)
  exact ⟨g, cap, w', h1, h2, (hb.mono hS).grown h3 (Nat.le_trans hS hb.size) (fun k hk => (hown.lt k hk).1)⟩
theorem bts_of_gs {w0 w : World} {x : Option Addr} {l c : Nat} {ys : List (RBW w0).α} (h2 : Gs (RBW w0) w (.slice x l c) ys) (hl : l = ys.length) (hb : Below w0.heap.size w0 w) : Bts w (.slice x l c) (ys.map fun q => q.1.1) := by
  by_cases h0 : l = 0
  · refine .inl ⟨x, c, by rw [h0], ?_⟩
    have : List.length (α := (RBW w0).α) ys = 0 := by rw [← hl]; exact h0
    rw [List.eq_nil_of_length_eq_zero this]
    rfl
  · have h3 : ∀ i, i < List.length (α := (RBW w0).α) ys → ∃ b off, x = some ⟨b, off, none⟩ ∧ w.cell? ⟨b, off + i * 2, none⟩ = some (.int .i64 ((ys.map fun q => q.1.1).getD i zb).1) ∧ ∃ s, w.cell? ⟨b, off + i * 2 + 1, none⟩ = some s ∧ Os w s ((ys.map fun q => q.1.1).getD i zb).2 := fun i hi => by
      obtain ⟨b, off, e1, _, e3⟩ := Gs.at (R := RBW w0) (by rw [← hl]; exact h2) hi
      have e4 := e3 0 (show 0 < 2 by decide)
      have e5 := e3 1 (show 1 < 2 by decide)
      have e6 : (ys.map fun q => q.1.1).getD i zb = (ys.getD i (RBW w0).d).1.1 := by
        rw [List.getD_eq_getElem?_getD, List.getD_eq_getElem?_getD, List.getElem?_map, List.getElem?_eq_getElem hi]
        rfl
      rw [e6]
      exact ⟨b, off, e1, e4, (ys.getD i (RBW w0).d).1.2, e5, (ys.getD i (RBW w0).d).2.2.below hb⟩
    obtain ⟨b, off, rfl, _⟩ := h3 0 (by omega)
    refine .inr ⟨b, off, c, by rw [List.length_map, hl], fun i hi => ?_⟩
    rw [List.length_map] at hi
    obtain ⟨b', off', e, k⟩ := h3 i hi
    cases e
    exact k
/-- Marks, in a block of their own. -/
def CamB (w : World) (g : Nat) (cs : List Bool) : Prop := w.heap[g]? = some (.cells (cs.map Value.bool).toArray 4)
theorem CamB.lt {w : World} {g : Nat} {cs : List Bool} (h : CamB w g cs) : g < w.heap.size := some_lt h
theorem CamB.chg {w w' : World} {G : Nat → Prop} {g : Nat} {cs : List Bool} (h : CamB w g cs) (hc : Chg G w w') (hg : ¬ G g) : CamB w' g cs := (hc.block g h.lt hg).trans h
theorem CamB.below {w w' : World} {g : Nat} {cs : List Bool} (h : CamB w g cs) (hb : Below w.heap.size w w') : CamB w' g cs := (hb.block g h.lt).trans h
theorem CamB.at {w : World} {g : Nat} {cs : List Bool} (h : CamB w g cs) {j : Nat} (hj : j < cs.length) : w.cell? ⟨g, j, none⟩ = some (.bool (cs.getD j false)) ∧ w.frozen? ⟨g, j, none⟩ = false := by
  have h' : w.heap[g]? = some (.cells (cs.map Value.bool).toArray 4) := h
  constructor
  · simp [World.cell?, h', List.getD, hj]
  · simp [World.frozen?, h']
theorem CamB.set {w : World} {g : Nat} {cs : List Bool} (h : CamB w g cs) (j : Nat) : CamB (w.setCell ⟨g, j, none⟩ (.bool true)) g (cs.set j true) := by
  have h' : w.heap[g]? = some (.cells (cs.map Value.bool).toArray 4) := h
  show _ = _
  rw [heap_setCell_same w g j _ 4 _ h', List.map_set]
  simp
theorem CamB.blk {w : World} {g : Nat} {cs : List Bool} (h : CamB w g cs) : BlkT w g 4 := ⟨_, _, h⟩
theorem made_bools (n : Nat) : madeCells #[.bool false] n = ((List.replicate n false).map Value.bool).toArray := by
  refine Array.ext (by simp [madeCells]) (fun i h1 h2 => ?_)
  simp [madeCells, Nat.mod_one]
theorem infoBL : (Try.prog.info? 4).map (fun i => (i.zero, i.size, i.bytes)) = some (some (.bool false), 1, 1) := by kernel_rfl
theorem underBO : Try.prog.underlying 38 = some (.slice 4) := by kernel_rfl
theorem run_bools (w : World) (n : Nat) (hn : n ≤ 1000) : ∃ w', (Instr.makeSlice 38 (.int .i64 n) (.int .i64 n)).run Try.prog w = .ok (.slice (some ⟨w.heap.size, 0, none⟩) n n) w' ∧ CamB w' w.heap.size (List.replicate n false) ∧ Below w.heap.size w w' := by
  obtain ⟨i0, hi, hz0, hz1, hz2⟩ := info_parts infoBL
  have hr := run_makeSlice (P := Try.prog) w 38 4 i0 _ underBO hi hz0 .i64 .i64 (n : Int) (n : Int) (by omega) (Int.le_refl _) (by rw [hz1]; simp; omega) (by rw [hz2]; omega) (by omega)
  simp only [Int.toNat_natCast] at hr
  refine ⟨_, hr, ?_, (Below.refl _ w).alloc (Nat.le_refl _) _⟩
  show _ = _
  rw [heap_alloc_new, hz1, Nat.mul_one]
  show some (Obj.cells (madeCells #[.bool false] n) 4 _) = _
  rw [made_bools]
end Go.Proofs.Ytfiaghfaijlfjaa

namespace Go.Proofs.Ytfiaghfaijlfjaa
set_option maxRecDepth 100000
set_option linter.unusedVariables false

def toldP (t : Tk) (Bs : List Bt) : List Ob := ((Bs.take t.nx.toNat).map Prod.snd).flatten
theorem numAt_flat {n : Int} (hn : 0 ≤ n) : ∀ i : Nat, n + i ≤ 65535 → numAt n i = n + i
  | 0, _ => by show n = n + 0; omega
  | i + 1, h => by
    rw [numAt_succ, numAt_flat hn i (by omega)]
    unfold nxt
    omega
theorem far_up {a b : Int} (ha : 0 ≤ a) (hab : a ≤ b) (hb : b ≤ 65535) : far a b = b - a := by unfold far; omega
theorem far_down {a b : Int} (hb : 0 ≤ b) (hab : b < a) (ha : a ≤ 65535) : far a b = 65536 - (a - b) := by unfold far; omega
theorem mem_nums {H : List Bt} {x : Bt} (h : x ∈ H) : x.1 ∈ nums H := List.mem_map.2 ⟨x, h, rfl⟩
/-- Which ones came: the law's own row. -/
def cameR (c : List Bool) (nx j : Nat) : List Bool := if j ≤ nx + 16 then c.set j true else c
structure Ord (t : Tk) (c : List Bool) (nx : Nat) (Bs : List Bt) : Prop where
  tok : TkOk t
  few : Bs.length ≤ 60
  num : ∀ i (h : i < Bs.length), Bs[i].1 = (i : Int)
  bok : ∀ x ∈ Bs, BtOk x.1 x.2
  clen : c.length = Bs.length + 1
  last : c.getD Bs.length false = false
  tnx : t.nx = nx
  le : nx ≤ Bs.length
  held : ∀ h ∈ t.H, h ∈ Bs
  more : ∀ i, nx < i → i < Bs.length → (c.getD i false = true ↔ (i : Int) ∈ nums t.H)
  now : c.getD nx false = false
theorem getD_set {c : List Bool} {j i : Nat} (hj : j < c.length) : (c.set j true).getD i false = if i = j then true else c.getD i false := by
  by_cases h : i = j
  · subst h
    simp [List.getD, hj]
  · rw [if_neg h]
    simp [List.getD, Ne.symm h]
theorem ord_new {Bs : List Bt} (h1 : Bs.length ≤ 60) (h2 : ∀ i (h : i < Bs.length), Bs[i].1 = (i : Int)) (h3 : ∀ x ∈ Bs, BtOk x.1 x.2) : Ord tk0 (List.replicate (Bs.length + 1) false) 0 Bs := by
  have hg : ∀ i, (List.replicate (Bs.length + 1) false).getD i false = false := fun i => by simp only [List.getD, List.getElem?_replicate]; split <;> rfl
  refine ⟨tkok_new, h1, h2, h3, List.length_replicate .., hg _, rfl, Nat.zero_le _, fun e he => absurd he List.not_mem_nil, fun i _ _ => ?_, hg _⟩
  rw [hg]
  exact ⟨fun h => (by cases h), fun h => absurd h List.not_mem_nil⟩
section
variable {t : Tk} {c : List Bool} {nx : Nat} {Bs : List Bt}
theorem Ord.idx (h : Ord t c nx Bs) {x : Bt} (hx : x ∈ Bs) : ∃ i, ∃ hi : i < Bs.length, Bs[i] = x ∧ x.1 = (i : Int) := by
  obtain ⟨i, hi, rfl⟩ := List.mem_iff_getElem.1 hx
  exact ⟨i, hi, rfl, h.num i hi⟩
theorem Ord.uniq (h : Ord t c nx Bs) {x y : Bt} (hx : x ∈ Bs) (hy : y ∈ Bs) (e : x.1 = y.1) : x = y := by
  obtain ⟨i, hi, rfl, h1⟩ := h.idx hx
  obtain ⟨j, hj, rfl, h2⟩ := h.idx hy
  have : i = j := by omega
  subst this
  rfl
/-- One that came is marked, though nothing else turns. -/
theorem Ord.mark (h : Ord t c nx Bs) {j : Nat} (hj : j < Bs.length) (hc : j < nx ∨ (nx < j ∧ (j : Int) ∈ nums t.H)) : Ord t (c.set j true) nx Bs := by
  have hl := h.clen
  have hg : ∀ i, (c.set j true).getD i false = if i = j then true else c.getD i false := fun i => getD_set (by omega)
  refine ⟨h.tok, h.few, h.num, h.bok, by rw [List.length_set]; exact hl, by rw [hg, if_neg (by omega)]; exact h.last, h.tnx, h.le, h.held, fun i h1 h2 => ?_, by rw [hg, if_neg (by omega)]; exact h.now⟩
  rw [hg]
  by_cases hij : i = j
  · rw [if_pos hij]
    subst hij
    rcases hc with hc | hc
    · omega
    · exact ⟨fun _ => hc.2, fun _ => rfl⟩
  · rw [if_neg hij]
    exact h.more i h1 h2
theorem Ord.step (h : Ord t c nx Bs) {j : Nat} {x : Bt} (hj : Bs[j]? = some x) : ∃ m : Nat, Ord (takeR t x).2 (cameR c nx j) (nx + m) Bs ∧ (∀ i, nx ≤ i → i < nx + m → (cameR c nx j).getD i false = true) ∧ toldP (takeR t x).2 Bs = toldP t Bs ++ (takeR t x).1.1 ∧ (nx + 16 < j → (takeR t x).1 = ([], 1)) := by
  obtain ⟨hjl, hjx⟩ := List.getElem?_eq_some_iff.1 hj
  have hx1 : x.1 = (j : Int) := by rw [← hjx]; exact h.num j hjl
  have hxB : x ∈ Bs := hjx ▸ List.getElem_mem hjl
  have hbx := h.bok x hxB
  have hf := h.few
  have hle := h.le
  have htn := h.tnx
  have hcl := h.clen
  have hno : ∀ t' : Tk, t' = t → (∀ i, nx ≤ i → i < nx + 0 → (cameR c nx j).getD i false = true) := fun _ _ i h1 h2 => by omega
  by_cases hA : j < nx
  · have hfar : far t.nx x.1 = 65536 - (nx - j) := by rw [htn, hx1, far_down (by omega) (by omega) (by omega)]
    have he : takeR t x = (([], 10), t) := by
      unfold takeR
      rw [if_neg (fun g => g hbx), if_pos (by omega)]
    have hcr : cameR c nx j = c.set j true := if_pos (by omega)
    rw [he, hcr]
    exact ⟨0, h.mark hjl (.inl hA), fun i h1 h2 => by omega, (List.append_nil _).symm, fun h9 => by omega⟩
  · have hfar : far t.nx x.1 = j - nx := by rw [htn, hx1, far_up (by omega) (by omega) (by omega)]
    by_cases hC : nx + 16 < j
    · have he : takeR t x = (([], 1), t) := by
        unfold takeR
        rw [if_neg (fun g => g hbx), if_neg (by omega), if_pos (by omega)]
      have hcr : cameR c nx j = c := if_neg (by omega)
      rw [he, hcr]
      exact ⟨0, h, fun i h1 h2 => by omega, (List.append_nil _).symm, fun _ => rfl⟩
    · have hcr : cameR c nx j = c.set j true := if_pos (by omega)
      cases hfd : findH t.H x.1 with
      | some y =>
        obtain ⟨hy1, hy2⟩ := findH_some hfd
        have he : takeR t x = (([], 9), t) := by
          unfold takeR
          rw [if_neg (fun g => g hbx), if_neg (by omega), if_neg (by omega), if_pos (by rw [hfd]; rfl)]
        have hne : nx ≠ j := fun e => by
          have h1 := (h.tok.near y hy1).1
          rw [hy2, hfar] at h1
          omega
        rw [he, hcr]
        refine ⟨0, h.mark hjl (.inr ⟨by omega, ?_⟩), fun i h1 h2 => by omega, (List.append_nil _).symm, fun h9 => by omega⟩
        rw [← hx1, ← hy2]
        exact mem_nums hy1
      | none =>
        have hin : TkIn t x := ⟨hbx, by omega, hfd⟩
        obtain ⟨_, k1, B, k2, k3, k4, k5, k6, k7⟩ := take_ok h.tok hin
        have hl := held_le h.tok
        have hB : ∀ i (hi : i < B.length), B[i] ∈ Bs := fun i hi => by
          rcases (k3 i hi).1 with h1 | h1
          · exact h.held _ h1
          · rw [h1]; exact hxB
        have hnum : ∀ i (hi : i < B.length), B[i].1 = ((nx + i : Nat) : Int) := fun i hi => by
          rw [(k3 i hi).2, htn, numAt_flat (by omega) i (by omega)]
          omega
        have hlen : nx + B.length ≤ Bs.length := by
          rcases Nat.eq_zero_or_pos B.length with h0 | h0
          · omega
          · have h1 := hnum (B.length - 1) (by omega)
            obtain ⟨i, hi, _, h2⟩ := h.idx (hB (B.length - 1) (by omega))
            omega
        have hnx2 : (takeR t x).2.nx = ((nx + B.length : Nat) : Int) := by
          rw [k4, htn, numAt_flat (by omega) _ (by omega)]
          omega
        have hBe : B = (Bs.drop nx).take B.length := by
          apply List.ext_getElem
          · rw [List.length_take, List.length_drop]; omega
          · intro i h1 h2
            rw [List.getElem_take, List.getElem_drop]
            refine h.uniq (hB i h1) (List.getElem_mem _) ?_
            rw [hnum i h1, h.num]
        have hg : ∀ i, (c.set j true).getD i false = if i = j then true else c.getD i false := fun i => getD_set (by omega)
        have hin2 : ∀ i : Nat, nx ≤ i → i < Bs.length → ((c.set j true).getD i false = true ↔ ∃ y, (y ∈ t.H ∨ y = x) ∧ y.1 = (i : Int)) := fun i h1 h2 => by
          rw [hg]
          by_cases hij : i = j
          · rw [if_pos hij]
            exact ⟨fun _ => ⟨x, .inr rfl, by rw [hx1, hij]⟩, fun _ => rfl⟩
          · rw [if_neg hij]
            rcases Nat.eq_or_lt_of_le h1 with e | h3
            · rw [← e, h.now]
              constructor
              · intro h4; cases h4
              · rintro ⟨y, hy | hy, h5⟩
                · have h6 := (h.tok.near y hy).1
                  rw [h5, htn] at h6
                  unfold far at h6
                  omega
                · rw [hy, hx1] at h5; omega
            · rw [h.more i h3 h2]
              constructor
              · intro h4
                obtain ⟨y, hy, e⟩ := List.mem_map.1 h4
                exact ⟨y, .inl hy, e⟩
              · rintro ⟨y, hy | hy, h5⟩
                · exact h5 ▸ mem_nums hy
                · rw [hy, hx1] at h5; omega
        have hnotB : ∀ y : Bt, ∀ i : Nat, y.1 = (i : Int) → nx + B.length ≤ i → y ∉ B := fun y i h1 h2 hy => by
          obtain ⟨q, hq, rfl⟩ := List.mem_iff_getElem.1 hy
          have h3 := hnum q hq
          omega
        rw [hcr]
        refine ⟨B.length, ⟨k1, hf, h.num, h.bok, by rw [List.length_set]; exact hcl, by rw [hg, if_neg (by omega)]; exact h.last, hnx2, hlen, fun y hy => ?_, fun i h1 h2 => ?_, ?_⟩, fun i h1 h2 => ?_, ?_, fun h9 => by omega⟩
        · rcases ((k6 y).1 hy).1 with h1 | h1
          · exact h.held y h1
          · rw [h1]; exact hxB
        · rw [hin2 i (by omega) h2]
          constructor
          · rintro ⟨y, hy, h3⟩
            exact h3 ▸ mem_nums ((k6 y).2 ⟨hy, hnotB y i h3 (by omega)⟩)
          · intro h3
            obtain ⟨y, hy, e⟩ := List.mem_map.1 h3
            exact ⟨y, ((k6 y).1 hy).1, e⟩
        · rcases Nat.eq_or_lt_of_le hlen with e | h3
          · rw [e, hg, if_neg (by omega)]
            exact h.last
          · cases hc : (c.set j true).getD (nx + B.length) false with
            | false => rfl
            | true =>
              exfalso
              obtain ⟨y, hy, h4⟩ := (hin2 (nx + B.length) (by omega) h3).1 hc
              have h5 := (k6 y).2 ⟨hy, hnotB y _ h4 (Nat.le_refl _)⟩
              rw [hnx2] at k7
              exact findH_none k7 y h5 h4
        · have hq : i - nx < B.length := by omega
          refine (hin2 i h1 (by omega)).2 ⟨B[i - nx], (k3 _ hq).1, ?_⟩
          rw [hnum _ hq]
          omega
        · unfold toldP
          rw [k2, hnx2, htn]
          have e1 : ((nx + B.length : Nat) : Int).toNat = nx + B.length := Int.toNat_natCast _
          have e2 : (nx : Int).toNat = nx := Int.toNat_natCast _
          rw [e1, e2, List.take_add, List.map_append, List.flatten_append, ← hBe]
end
end Go.Proofs.Ytfiaghfaijlfjaa
