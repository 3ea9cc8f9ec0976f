/- Rows of objects: in memory, as arguments, in memory of their own. No conditions. -/
import Derived.Test.YtfiaghfaijlfjaaGreatOrb
import Derived.Test.YtfiaghfaijlfjaaGreatOeq
import Derived.Deep.Slices
namespace Go.Proofs.YtfiaghfaijlfjaaGreat
set_option maxRecDepth 100000
open Go.RowKit Go.Sort Go.WideShapes Go.ChangeShapes

/-- An object. -/
structure Ob where
  k : Int
  x : Int
  n : Bool
  t : Int
  o : Int
  r : Int
  d : Int
  i : Int
  p : Int
  q : Int
  s : Int
  m : Int
def z12 : Ob := ⟨0, 0, false, 0, 0, 0, 0, 0, 0, 0, 0, 0⟩
def Ob.cl (y : Ob) : List Value := [.int .i64 y.k, .int .i64 y.x, .bool y.n, .int .i64 y.t, .int .i64 y.o, .int .i64 y.r, .int .i64 y.d, .int .i64 y.i, .int .i64 y.p, .int .i64 y.q, .int .i64 y.s, .int .i64 y.m]
def Ob.Ok (y : Ob) : Prop := ObOk y.k y.x y.n y.t y.o y.r y.d y.i y.p y.q y.s y.m
instance (y : Ob) : Decidable y.Ok := by unfold Ob.Ok; infer_instance
def Ob.bs (y : Ob) : List Int := obBs y.k y.x y.n y.t y.o y.r y.d y.i y.p y.q y.s y.m
theorem cl_len (y : Ob) : y.cl.length = 12 := rfl
def flat (ys : List Ob) : List Value := ys.flatMap Ob.cl
theorem flat_len (ys : List Ob) : (flat ys).length = ys.length * 12 := by
  induction ys with
  | nil => rfl
  | cons y ys ih => simp only [flat, List.flatMap_cons, List.length_append, List.length_cons, cl_len] at *; omega
theorem flat_app (xs ys : List Ob) : flat (xs ++ ys) = flat xs ++ flat ys := by simp [flat]
theorem flat_at : ∀ (ys : List Ob) (i j : Nat), i < ys.length → j < 12 → (flat ys)[i * 12 + j]? = (ys.getD i z12).cl[j]?
  | [], i, j, h, _ => by simp at h
  | y :: ys, 0, j, _, hj => by
    simp only [flat, List.flatMap_cons, Nat.zero_mul, Nat.zero_add, List.getD_cons_zero]
    rw [List.getElem?_append_left (by rw [cl_len]; exact hj)]
  | y :: ys, i + 1, j, h, hj => by
    have ih := flat_at ys i j (by simpa using h) hj
    simp only [flat, List.flatMap_cons, List.getD_cons_succ] at *
    rw [List.getElem?_append_right (by rw [cl_len]; omega), cl_len, show (i + 1) * 12 + j - 12 = i * 12 + j by omega]
    exact ih
/-- The twelve cells of an object, wherever they lie. -/
def C12 (w : World) (b o : Nat) (y : Ob) : Prop := ∀ j, j < 12 → w.cell? ⟨b, o + j, none⟩ = y.cl[j]?
theorem C12.all {w : World} {b o : Nat} {y : Ob} (h : C12 w b o y) : w.cell? ⟨b, o, none⟩ = some (.int .i64 y.k) ∧ w.cell? ⟨b, o + 1, none⟩ = some (.int .i64 y.x) ∧ w.cell? ⟨b, o + 2, none⟩ = some (.bool y.n) ∧ w.cell? ⟨b, o + 3, none⟩ = some (.int .i64 y.t) ∧ w.cell? ⟨b, o + 4, none⟩ = some (.int .i64 y.o) ∧ w.cell? ⟨b, o + 5, none⟩ = some (.int .i64 y.r) ∧ w.cell? ⟨b, o + 6, none⟩ = some (.int .i64 y.d) ∧ w.cell? ⟨b, o + 7, none⟩ = some (.int .i64 y.i) ∧ w.cell? ⟨b, o + 8, none⟩ = some (.int .i64 y.p) ∧ w.cell? ⟨b, o + 9, none⟩ = some (.int .i64 y.q) ∧ w.cell? ⟨b, o + 10, none⟩ = some (.int .i64 y.s) ∧ w.cell? ⟨b, o + 11, none⟩ = some (.int .i64 y.m) :=
  ⟨h 0 (by decide), h 1 (by decide), h 2 (by decide), h 3 (by decide), h 4 (by decide), h 5 (by decide), h 6 (by decide), h 7 (by decide), h 8 (by decide), h 9 (by decide), h 10 (by decide), h 11 (by decide)⟩
/-- A slice of objects that reads as ys. -/
def Os (w : World) (v : Value) (ys : List Ob) : Prop :=
  (∃ a cap, v = .slice a 0 cap ∧ (a = none → cap = 0) ∧ ys = []) ∨
  ∃ b off cap, v = .slice (some ⟨b, off, none⟩) ys.length cap ∧ ys.length ≤ cap ∧ b < w.heap.size ∧ ∀ i, i < ys.length → C12 w b (off + i * 12) (ys.getD i z12)
theorem Os.below {w w' : World} {v : Value} {ys : List Ob} (h : Os w v ys) (hb : Below w.heap.size w w') : Os w' v ys := by
  rcases h with h | ⟨b, off, cap, h1, h2, h3, h4⟩
  · exact .inl h
  · refine .inr ⟨b, off, cap, h1, h2, Nat.lt_of_lt_of_le h3 hb.size, fun i hi j hj => ?_⟩
    rw [hb.cell (p := ⟨b, off + i * 12 + j, none⟩) h3]
    exact h4 i hi j hj
theorem Os.form {w : World} {v : Value} {ys : List Ob} (h : Os w v ys) : ∃ a c, v = .slice a ys.length c := by
  rcases h with ⟨a, cap, h1, _, rfl⟩ | ⟨b, off, cap, h1, _⟩
  · exact ⟨a, cap, h1⟩
  · exact ⟨_, _, h1⟩
theorem Os_nil (w : World) : Os w (.slice none 0 0) [] := .inl ⟨none, 0, rfl, fun _ => rfl, rfl⟩
theorem own_cell {w : World} {base n : Nat} {g cap : Nat} {xs : List Value} {e : TypeId} {size : Nat} (h : w.ownsRow base e size (.slice (some ⟨g, 0, none⟩) n cap) n xs) (j : Nat) (hj : j < n * size) : w.cell? ⟨g, j, none⟩ = xs[j]? := by
  rcases h.2 with ⟨h1, _⟩ | ⟨g', cap', cur, hv, _, hg, _, _, _, htake⟩
  · cases h1
  · simp only [Value.slice.injEq, Option.some.injEq, Addr.mk.injEq, and_true, true_and] at hv
    obtain ⟨rfl, rfl⟩ := hv
    rw [cell_of_row w g j cur e (0, 0) hg, ← htake, List.getElem?_take, if_pos hj]
    simp
theorem Os_of_own {w : World} {base n : Nat} {v : Value} {ys : List Ob} (h : w.ownsRow base 53 12 v n (flat ys)) : Os w v ys ∧ n = ys.length := by
  have hn : n = ys.length := by have := h.1; rw [flat_len] at this; omega
  subst hn
  refine ⟨?_, rfl⟩
  rcases h.2 with ⟨h1, h2⟩ | ⟨g, cap, cur, rfl, _, hg, hnc, _, _, htake⟩
  · exact .inl ⟨none, 0, h1, fun _ => rfl, List.length_eq_zero_iff.1 h2⟩
  · refine .inr ⟨g, 0, cap, rfl, hnc, (Array.getElem?_eq_some_iff.1 hg).1, fun i hi j hj => ?_⟩
    rw [Nat.zero_add, own_cell h (i * 12 + j) (by omega), flat_at ys i j hi hj]
theorem underSL : Tryz.prog.underlying 29 = some (.slice 53) := by kernel_rfl
theorem list12 {l : List Value} (h : l.length = 12) : ∃ c0 c1 c2 c3 c4 c5 c6 c7 c8 c9 c10 c11, l = [c0, c1, c2, c3, c4, c5, c6, c7, c8, c9, c10, c11] := by
  match l, h with
  | [c0, c1, c2, c3, c4, c5, c6, c7, c8, c9, c10, c11], _ => exact ⟨c0, c1, c2, c3, c4, c5, c6, c7, c8, c9, c10, c11, rfl⟩
theorem cl_form {H : Type} {enc : TypeId × Value → H} {w : World} {base n' : Nat} {spare : Nat → Bool} {held : Bool} {cs : List Value} {X : DataW H × List MemPlace} (hl12 : cs.length = 12)
    (hf : DataW.trod enc Tryz.prog w base spare held n' 53 cs = some X) : ∃ y : Ob, cs = y.cl := by
  obtain ⟨c0, c1, c2, c3, c4, c5, c6, c7, c8, c9, c10, c11, rfl⟩ := list12 hl12
  obtain ⟨xs, M, _, _, _, hl, hx⟩ := DataW.trod_struct under37 hf
  obtain ⟨k, rfl, _⟩ := int_cell (cell_form (j := 0) (T := 3) (O := 0) (v := c0) hl hx (by kernel_rfl) (by kernel_rfl) rfl)
  obtain ⟨x, rfl, _⟩ := int_cell (cell_form (j := 1) (T := 3) (O := 1) (v := c1) hl hx (by kernel_rfl) (by kernel_rfl) rfl)
  obtain ⟨m, rfl, _⟩ := int_cell (cell_form (j := 4) (T := 3) (O := 11) (v := c11) hl hx (by kernel_rfl) (by kernel_rfl) rfl)
  obtain ⟨yh, hh⟩ := part_form (j := 2) (T := 49) (O := 2) (K := 6) hl hx (by kernel_rfl) (by kernel_rfl)
  obtain ⟨yl, hlv⟩ := part_form (j := 3) (T := 51) (O := 8) (K := 3) hl hx (by kernel_rfl) (by kernel_rfl)
  clear hl hx hf
  obtain ⟨xh, Mh, _, _, _, hl, hx⟩ := DataW.trod_struct under23 hh
  obtain ⟨y0, h0⟩ := cell_form (j := 0) (T := 4) (O := 0) (v := c2) hl hx (by kernel_rfl) (by kernel_rfl) rfl
  obtain ⟨n, hn, _⟩ := DataW.trod_bool Tryz.underlying4 h0
  simp only [List.cons.injEq, and_true] at hn
  obtain ⟨t, rfl, _⟩ := int_cell (cell_form (j := 1) (T := 3) (O := 1) (v := c3) hl hx (by kernel_rfl) (by kernel_rfl) rfl)
  obtain ⟨o, rfl, _⟩ := int_cell (cell_form (j := 2) (T := 3) (O := 2) (v := c4) hl hx (by kernel_rfl) (by kernel_rfl) rfl)
  obtain ⟨r, rfl, _⟩ := int_cell (cell_form (j := 3) (T := 3) (O := 3) (v := c5) hl hx (by kernel_rfl) (by kernel_rfl) rfl)
  obtain ⟨d, rfl, _⟩ := int_cell (cell_form (j := 4) (T := 3) (O := 4) (v := c6) hl hx (by kernel_rfl) (by kernel_rfl) rfl)
  obtain ⟨i, rfl, _⟩ := int_cell (cell_form (j := 5) (T := 3) (O := 5) (v := c7) hl hx (by kernel_rfl) (by kernel_rfl) rfl)
  clear hl hx
  obtain ⟨xl, Ml, _, _, _, hl, hx⟩ := DataW.trod_struct under25 hlv
  obtain ⟨p, rfl, _⟩ := int_cell (cell_form (j := 0) (T := 3) (O := 0) (v := c8) hl hx (by kernel_rfl) (by kernel_rfl) rfl)
  obtain ⟨q, rfl, _⟩ := int_cell (cell_form (j := 1) (T := 3) (O := 1) (v := c9) hl hx (by kernel_rfl) (by kernel_rfl) rfl)
  obtain ⟨s, rfl, _⟩ := int_cell (cell_form (j := 2) (T := 3) (O := 2) (v := c10) hl hx (by kernel_rfl) (by kernel_rfl) rfl)
  subst hn
  exact ⟨⟨k, x, n, t, o, r, d, i, p, q, s, m⟩, rfl⟩
theorem os_trod {H : Type} {enc : TypeId × Value → H} {w : World} {base : Nat} {spare : Nat → Bool} {held : Bool} {a : Option Addr} {len cap f : Nat} {X : DataW H × List MemPlace}
    (hspot : ∀ x, a = some x → x.spot = none) (hf : DataW.trod enc Tryz.prog w base spare held f 29 [.slice a len cap] = some X) : ∃ ys : List Ob, ys.length = len ∧ Os w (.slice a len cap) ys := by
  rcases Deep.open_slice underSL hf with ⟨hcs, _⟩ | ⟨x, l, c, m, n, D, Pl, hcs, _, hlc, _, hm, _, hel⟩
  · simp at hcs
    obtain ⟨rfl, rfl, rfl⟩ := hcs
    exact ⟨[], rfl, Os_nil w⟩
  · simp at hcs
    obtain ⟨rfl, rfl, rfl⟩ := hcs
    obtain ⟨b, off, spot⟩ := x
    have hsp := hspot _ rfl
    simp only at hsp
    subst hsp
    have hlm : len ≤ m := by rw [hm]; split <;> omega
    have c12 : Tryz.prog.cellsOf 53 = 12 := by kernel_rfl
    have each : ∀ k, ∃ y : Ob, k < len → C12 w b (off + k * 12) y ∧ b < w.heap.size := by
      intro k
      by_cases hk : k < len
      · obtain ⟨cs', h1, h2⟩ := hel k (by omega)
        rw [c12] at h1
        obtain ⟨_, hl12, hcell⟩ := World.cells?_some h1
        obtain ⟨y, rfl⟩ := cl_form hl12 h2
        have hB := World.cells?_block h1 (by decide)
        have hadd : (⟨b, off, none⟩ : Addr).add (k * 12) = ⟨b, off + k * 12, none⟩ := by unfold Addr.add; split <;> simp_all
        rw [hadd] at hcell hB
        have hadd2 : ∀ j, (⟨b, off + k * 12, none⟩ : Addr).add j = ⟨b, off + k * 12 + j, none⟩ := fun j => by unfold Addr.add; split <;> simp_all
        exact ⟨y, fun _ => ⟨fun j hj => by rw [← hadd2]; exact hcell j hj, hB⟩⟩
      · exact ⟨z12, fun h => absurd h hk⟩
    obtain ⟨F, hF⟩ := Classical.skolem.1 each
    refine ⟨(List.range len).map F, by simp, ?_⟩
    by_cases h0 : len = 0
    · subst h0
      exact .inl ⟨_, cap, rfl, (fun h => by cases h), rfl⟩
    · refine .inr ⟨b, off, cap, by simp, by simpa using hlc, (hF 0 (by omega)).2, fun i hi => ?_⟩
      have hi' : i < len := by simpa using hi
      have e : ((List.range len).map F).getD i z12 = F i := by simp [List.getD, hi']
      rw [e]
      exact (hF i hi').1
theorem obs_form {H : Type} {enc : TypeId × Value → H} {w : World} {base b0 : Nat} {spare : Nat → Bool} {held : Bool} {r : Reach} {a : Option Addr} {len cap : Nat} {d : DataW H} {p : List MemPlace}
    (hv : Value.okWide Tryz.prog w r b0 29 (.slice a len cap)) (h : DataW.Trod enc Tryz.prog w base spare held 29 (.slice a len cap) d p) : ∃ ys : List Ob, ys.length = len ∧ Os w (.slice a len cap) ys := by
  obtain ⟨fuel, hf⟩ := h
  refine os_trod (fun x hx => ?_) hf
  subst hx
  simp only [Value.okWide, underSL, Cell.okWide, Cell.ok] at hv
  exact hv.2.2.2.1
theorem infoOB : (Tryz.prog.info? 53).map (fun i => (i.zero, i.size, i.bytes)) = some (some (.agg #[.int .i64 0, .int .i64 0, .bool false, .int .i64 0, .int .i64 0, .int .i64 0, .int .i64 0, .int .i64 0, .int .i64 0, .int .i64 0, .int .i64 0, .int .i64 0]), 12, 96) := by kernel_rfl
theorem flat_ones (ys : List Ob) : ∀ u ∈ flat ys, u.oneCell' = true := by
  intro u hu
  obtain ⟨y, _, hy⟩ := List.mem_flatMap.1 hu
  simp only [Ob.cl, List.mem_cons, List.not_mem_nil, or_false] at hy
  rcases hy with rfl | rfl | rfl | rfl | rfl | rfl | rfl | rfl | rfl | rfl | rfl | rfl <;> rfl
theorem flat_news {w : World} {b off : Nat} {ys : List Ob} (hc : ∀ i, i < ys.length → C12 w b (off + i * 12) (ys.getD i z12)) : ∀ j u, (flat ys)[j]? = some u → w.cell? ((⟨b, off, none⟩ : Addr).add j) = some u := by
  intro j u h
  have hj : j < ys.length * 12 := by
    have := (List.getElem?_eq_some_iff.1 h).1
    rwa [flat_len] at this
  have hadd : (⟨b, off, none⟩ : Addr).add j = ⟨b, off + j, none⟩ := by unfold Addr.add; split <;> simp_all
  have hd : j = (j / 12) * 12 + j % 12 := by omega
  rw [hadd]
  have h1 := hc (j / 12) (by omega) (j % 12) (by omega)
  rw [show off + j / 12 * 12 + j % 12 = off + j by omega] at h1
  rw [h1, ← flat_at ys (j / 12) (j % 12) (by omega) (by omega), ← hd]
  exact h
/-- append of objects to a row of the call's own. -/
theorem oapp_any {ops : Array Oper} {rest : List Oper} {o : Oper} {a : Act} {Q : Exit → Act → World → Prop} {w : World} (hgd : o.guard = none) (s x : Operand)
    (ho : o.op = .call { callee := .builtin .append, args := #[s, x], argTypes := #[29, 29] }) (base : Nat) (xs ys : List Ob)
    (hown : w.ownsRow base 53 12 (a.eval s) xs.length (flat xs)) (hx : Os w (a.eval x) ys) (h63 : xs.length + ys.length ≤ 3000) (hbase : base ≤ w.heap.size)
    (h : ∀ v' w', w'.ownsRow base 53 12 v' (xs ++ ys).length (flat (xs ++ ys)) → Below base w w' → w.heap.size ≤ w'.heap.size → wpList Tryz.prog ops Q rest (a.put o.dst v') w') : wpList Tryz.prog ops Q (o :: rest) a w := by
  obtain ⟨i0, hi, hz0, hz1, hz2⟩ := info_parts infoOB
  have hzs : ((.agg #[.int .i64 0, .int .i64 0, .bool false, .int .i64 0, .int .i64 0, .int .i64 0, .int .i64 0, .int .i64 0, .int .i64 0, .int .i64 0, .int .i64 0, .int .i64 0] : Value).cells).size = 12 := rfl
  rcases hx with ⟨ad, cap, hv, hz, rfl⟩ | ⟨b, off, cap, hv, hcap, _, hcs⟩
  · cases ad with
    | none =>
      obtain rfl : cap = 0 := hz rfl
      refine wpList_append_own_none hgd s x 29 ho base 53 i0 12 underSL hi _ _ _ rfl hown hv ?_
      rw [List.append_nil] at h
      exact h _ _ hown (Below.refl _ _) (Nat.le_refl _)
    | some ad =>
      refine wpList_append_own w hgd s x 29 ho base 53 i0 (.agg #[.int .i64 0, .int .i64 0, .bool false, .int .i64 0, .int .i64 0, .int .i64 0, .int .i64 0, .int .i64 0, .int .i64 0, .int .i64 0, .int .i64 0, .int .i64 0]) 12 96 underSL hi hz0 hz1 hz2 hzs (by decide) _ _ _ rfl hown ad 0 cap [] hv (by simp) (by simp) (by simp) (by unfold maxLen; simp at h63; omega) (by simp at h63; omega) hbase fun v' w1 hown1 hgrow _ => ?_
      refine h v' w1 (by simpa using hown1) ((Below.refl _ w).grown hgrow hbase (fun k hk => (hown.lt k hk).1)) hgrow.size
  · refine wpList_append_own w hgd s x 29 ho base 53 i0 (.agg #[.int .i64 0, .int .i64 0, .bool false, .int .i64 0, .int .i64 0, .int .i64 0, .int .i64 0, .int .i64 0, .int .i64 0, .int .i64 0, .int .i64 0, .int .i64 0]) 12 96 underSL hi hz0 hz1 hz2 hzs (by decide) _ _ _ rfl hown ⟨b, off, none⟩ ys.length cap (flat ys) hv (flat_len ys) (flat_news hcs) (flat_ones ys) (by unfold maxLen; omega) (by omega) hbase fun v' w1 hown1 hgrow _ => ?_
    refine h v' w1 ?_ ((Below.refl _ w).grown hgrow hbase (fun k hk => (hown.lt k hk).1)) hgrow.size
    rw [List.length_append, flat_app]; exact hown1
theorem own_nil (w : World) (base : Nat) : w.ownsRow base 53 12 (.slice none 0 0) 0 (flat []) := ⟨rfl, .inl ⟨rfl, rfl⟩⟩
end Go.Proofs.YtfiaghfaijlfjaaGreat

