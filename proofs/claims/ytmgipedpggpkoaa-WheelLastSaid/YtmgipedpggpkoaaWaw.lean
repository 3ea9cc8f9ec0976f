/- Scripts of calls as arguments; the law's examples. -/
import Derived.Test.YtmgipedpggpkoaaWst
namespace Go.Proofs.Ytmgipedpggpkoaa
set_option maxRecDepth 100000
open Go.RowKit Go.WideShapes Go.ChangeShapes

/-- A call of the law's script: Call, Key, At. -/
abbrev OpT := Int × Int × Int
theorem underOP : Try.prog.underlying 34 = some (.struct (Try.prog.fieldsOf 34)) := by kernel_rfl
theorem underOPS : Try.prog.underlying 22 = some (.slice 34) := by kernel_rfl
theorem infoOP : (Try.prog.info? 34).map (fun i => (i.zero, i.size, i.bytes)) = some (some (.agg #[.int .i64 0, .int .i64 0, .int .i64 0]), 3, 24) := by kernel_rfl
theorem cellsOP : Try.prog.cellsOf 34 = 3 := by kernel_rfl
def opc (y : OpT) : List Value := [.int .i64 y.1, .int .i64 y.2.1, .int .i64 y.2.2]
def zOp : OpT := (0, 0, 0)
theorem opc_ones : ∀ y, ∀ u ∈ opc y, u.oneCell' = true := by
  intro y u hu
  simp only [opc, List.mem_cons, List.not_mem_nil, or_false] at hu
  rcases hu with rfl | rfl | rfl <;> rfl
noncomputable def RO : RowT where
  α := OpT
  d := zOp
  cl := opc
  K := 3
  T := 34
  SL := 22
  zero := .agg #[.int .i64 0, .int .i64 0, .int .i64 0]
  bytes := 24
  hcl := fun _ => rfl
  hK := by decide
  hone := opc_ones
  hSL := underOPS
  hinfo := infoOP
  hz := rfl
  hb := by decide
  hc := cellsOP
def C3 (w : World) (b o : Nat) (y : OpT) : Prop := w.cell? ⟨b, o, none⟩ = some (.int .i64 y.1) ∧ w.cell? ⟨b, o + 1, none⟩ = some (.int .i64 y.2.1) ∧ w.cell? ⟨b, o + 2, none⟩ = some (.int .i64 y.2.2)
def Sc (w : World) (v : Value) (l : List OpT) : Prop := Gs RO w v l
theorem Sc.at {w : World} {a : Option Addr} {c : Nat} {l : List OpT} (h : Sc w (.slice a l.length c) l) {i : Nat} (hi : i < l.length) : ∃ b off, a = some ⟨b, off, none⟩ ∧ b < w.heap.size ∧ C3 w b (off + i * 3) (l.getD i zOp) := by
  obtain ⟨b, off, h1, h2, h3⟩ := Gs.at (R := RO) h hi
  exact ⟨b, off, h1, h2, h3 0 (show 0 < 3 by decide), h3 1 (show 1 < 3 by decide), h3 2 (show 2 < 3 by decide)⟩
theorem Sc.form {w : World} {v : Value} {l : List OpT} (h : Sc w v l) : ∃ a c, v = .slice a l.length c := Gs.form (R := RO) h
theorem Sc.below {w w' : World} {v : Value} {l : List OpT} (h : Sc w v l) (hb : Below w.heap.size w w') : Sc w' v l := Gs.below (R := RO) h hb
/-- The numbers of a call are of 64 bits. -/
def OpW (y : OpT) : Prop := I64 y.1 ∧ I64 y.2.1 ∧ I64 y.2.2
def OpsW (l : List OpT) : Prop := ∀ y ∈ l, OpW y
theorem OpsW.at {l : List OpT} (h : OpsW l) {k : Nat} (hk : k < l.length) : OpW (l.getD k zOp) := h _ (by simp [List.getD, hk])
theorem zOp_w : OpW zOp := by unfold OpW I64 zOp; decide
noncomputable def RO2 : RowT where
  α := {y : OpT // OpW y}
  d := ⟨zOp, zOp_w⟩
  cl := fun y => opc y.1
  K := 3
  T := 34
  SL := 22
  zero := .agg #[.int .i64 0, .int .i64 0, .int .i64 0]
  bytes := 24
  hcl := fun _ => rfl
  hK := by decide
  hone := fun y => opc_ones y.1
  hSL := underOPS
  hinfo := infoOP
  hz := rfl
  hb := by decide
  hc := cellsOP
theorem op_trod {H : Type} {enc : TypeId × Value → H} {w : World} {base n' : Nat} {spare : Nat → Bool} {held : Bool} {cs : List Value} {X : DataW H × List MemPlace} (hl3 : cs.length = 3)
    (hf : DataW.trod enc Try.prog w base spare held n' 34 cs = some X) : ∃ y : {y : OpT // OpW y}, cs = opc y.1 := by
  obtain ⟨c0, c1, c2, rfl⟩ : ∃ c0 c1 c2, cs = [c0, c1, c2] := by
    match cs, hl3 with
    | [c0, c1, c2], _ => exact ⟨c0, c1, c2, rfl⟩
  clear hl3
  obtain ⟨xs, M, _, _, _, hl, hx⟩ := DataW.trod_struct underOP hf
  obtain ⟨k, rfl, hk⟩ := int_cell (cell_form (j := 0) (T := 3) (O := 0) (v := c0) hl hx (by kernel_rfl) (by kernel_rfl) rfl)
  obtain ⟨d, rfl, hd⟩ := int_cell (cell_form (j := 1) (T := 3) (O := 1) (v := c1) hl hx (by kernel_rfl) (by kernel_rfl) rfl)
  obtain ⟨t, rfl, ht⟩ := int_cell (cell_form (j := 2) (T := 3) (O := 2) (v := c2) hl hx (by kernel_rfl) (by kernel_rfl) rfl)
  exact ⟨⟨(k, d, t), hk, hd, ht⟩, rfl⟩
abbrev OpS := {y : OpT // OpW y}
theorem sc_sub {w : World} {v : Value} {ys : List OpS} (h : Gs RO2 w v ys) : Sc w v (ys.map Subtype.val) := by
  rcases h with ⟨a, cap, h3, h4, h5⟩ | ⟨b, off, cap, h3, h4, h5, h6⟩
  · have h5' : ys = [] := h5
    subst h5'
    exact .inl ⟨a, cap, h3, h4, rfl⟩
  · have h3' : v = .slice (some ⟨b, off, none⟩) (List.length (α := OpS) ys) cap := h3
    have h4' : List.length (α := OpS) ys ≤ cap := h4
    have h6' : ∀ i, i < List.length (α := OpS) ys → ∀ j, j < 3 → w.cell? ⟨b, off + i * 3 + j, none⟩ = (opc (List.getD (α := OpS) ys i ⟨zOp, zOp_w⟩).1)[j]? := h6
    clear h3 h4 h6
    refine .inr ⟨b, off, cap, ?_, ?_, h5, fun i hi j hj => ?_⟩
    · refine h3'.trans ?_
      show Value.slice _ (List.length (α := OpS) ys) cap = Value.slice _ (List.length (α := OpT) (ys.map Subtype.val)) cap
      rw [List.length_map]
    · show List.length (α := OpT) (ys.map Subtype.val) ≤ cap
      rw [List.length_map]
      exact h4'
    · have hi' : i < List.length (α := OpS) ys := by
        have hi2 : i < List.length (α := OpT) (ys.map Subtype.val) := hi
        rw [List.length_map] at hi2
        exact hi2
      have e : List.getD (α := OpT) (ys.map Subtype.val) i zOp = (List.getD (α := OpS) ys i ⟨zOp, zOp_w⟩).1 := by
        simp [List.getD, hi']
      show w.cell? ⟨b, off + i * 3 + j, none⟩ = (opc (List.getD (α := OpT) (ys.map Subtype.val) i zOp))[j]?
      rw [e]
      exact h6' i hi' j hj
theorem sub_len (ys : List OpS) : (ys.map Subtype.val).length = ys.length := List.length_map _
theorem sub_mem (ys : List OpS) : OpsW (ys.map Subtype.val) := fun y hy => by
  obtain ⟨z, _, rfl⟩ := List.mem_map.1 hy
  exact z.2
/-- A script of calls as an argument. -/
theorem sc_form {H : Type} {enc : TypeId × Value → H} {w : World} {base : Nat} {spare : Nat → Bool} {held : Bool} {x : Option Addr} {l c : Nat} {d : DataW H} {p : List MemPlace}
    (h : DataW.Trod enc Try.prog w base spare held 22 (.slice x l c) d p) : ∃ ys : List OpT, ys.length = l ∧ Sc w (.slice x l c) ys ∧ OpsW ys := by
  obtain ⟨fuel, hf⟩ := h
  obtain ⟨a, cap, ys, h1, h2⟩ := gs_trod (R := RO2) (u := .slice x l c) (fun n' cs X h1 h2 => op_trod h1 h2) hf
  simp only [Value.slice.injEq] at h1
  have hl : l = List.length (α := OpS) ys := h1.2.1
  exact ⟨List.map (α := OpS) Subtype.val ys, (sub_len ys).trans hl.symm, sc_sub h2, sub_mem ys⟩
theorem i64_small {x : Int} (h : 0 ≤ x ∧ x ≤ 2000000) : I64 x := by unfold I64; omega
theorem aw_1 : setE [] 7 5 = 0 ∧ setL [] 7 5 = [(5, 7)] := by decide
theorem aw_2 : setE [(5, 7)] 3 5 = 0 ∧ setL [(5, 7)] 3 5 = [(5, 3), (5, 7)] := by decide
theorem aw_3 : setE [(5, 3), (5, 7)] 9 2 = 0 ∧ setL [(5, 3), (5, 7)] 9 2 = [(2, 9), (5, 3), (5, 7)] := by decide
theorem aw_4 : setE [(2, 9), (5, 3), (5, 7)] 9 6 = 0 ∧ setL [(2, 9), (5, 3), (5, 7)] 9 6 = [(5, 3), (5, 7), (6, 9)] := by decide
theorem aw_5 : dueK [(5, 3), (5, 7), (6, 9)] 5 = [3, 7] ∧ dueL [(5, 3), (5, 7), (6, 9)] 5 = [(6, 9)] := by decide
theorem aw_6 : nextV [(6, 9)] = 6 ∧ nextB [(6, 9)] = true := by decide
theorem zs_37 (w : World) : Zs (w.alloc (.cells #[.int .i64 3, .int .i64 7] 3)) (.slice (some ⟨w.heap.size, 0, none⟩) 2 2) [3, 7] := by
  refine ⟨by decide, .inr ⟨w.heap.size, 0, 2, rfl, by decide, fun i hi => ?_⟩⟩
  match i, hi with
  | 0, _ => simp
  | 1, _ => simp
set_option maxHeartbeats 16000000 in
theorem awake11 {WSt : World → (Nat → Prop) → Nat → List Tm → Prop} (hc : Wc WSt) (w : World) :
    Calls Try.prog 20 #[] w fun e w' => e = .returned (.bool true) ∧ Below w.heap.size w w' := by
  have C1 := Lib.hid (hc.news w)
  go_enter Try.func20, Try.ntmps20
  go_wp2_with fail
  refine C1.out.mono ?_
  rintro e W1 ⟨b, rfl, hq, -⟩
  have C2 := Lib.hid (hc.sets hq 7 5 (i64_small (by decide)))
  clear hq C1
  go_wp2_with fail
  refine C2.out.mono ?_
  rintro e W2 ⟨rfl, hq, -⟩
  rw [aw_1.2] at hq
  rw [aw_1.1]
  have C3 := Lib.hid (hc.sets hq 3 5 (i64_small (by decide)))
  clear hq C2
  go_wp2_with fail
  refine C3.out.mono ?_
  rintro e W3 ⟨rfl, hq, -⟩
  rw [aw_2.2] at hq
  rw [aw_2.1]
  have C4 := Lib.hid (hc.sets hq 9 2 (i64_small (by decide)))
  clear hq C3
  go_wp2_with fail
  refine C4.out.mono ?_
  rintro e W4 ⟨rfl, hq, -⟩
  rw [aw_3.2] at hq
  rw [aw_3.1]
  have C5 := Lib.hid (hc.sets hq 9 6 (i64_small (by decide)))
  clear hq C4
  go_wp2_with fail
  refine C5.out.mono ?_
  rintro e W5 ⟨rfl, hq, -⟩
  rw [aw_4.2] at hq
  rw [aw_4.1]
  have C6 := Lib.hid (hc.dues hq 5)
  clear hq C5
  go_wp2_with fail
  refine C6.out.mono ?_
  rintro e W6 ⟨⟨a, c, rfl, ho, hq⟩, -⟩
  rw [aw_5.1] at ho hq
  rw [aw_5.2] at hq
  rw [aw_5.1]
  have hob := hq
  have C7 := Lib.hid (hc.nexts hq)
  have HO := Lib.hid ho
  clear hq ho hob C6
  go_wp2_with fail
  refine C7.out.mono ?_
  rintro e W7 ⟨rfl, hq, hch⟩
  rw [aw_6.1, aw_6.2]
  have ho7 := HO.out.chg hch (fun k hk => off_no (.inr hk))
  have HB := Lib.hid hq.bel
  clear hq hch C7
  obtain ⟨W8, hW8⟩ : ∃ W8, W7.alloc (.cells #[.int .i64 3, .int .i64 7] 3) = W8 := ⟨_, rfl⟩
  have hb8 : Below W7.heap.size W7 W8 := hW8 ▸ (Below.refl _ W7).alloc (Nat.le_refl _) _
  have hz8 : Zs W8 (.slice (some ⟨W7.heap.size, 0, none⟩) 2 2) [3, 7] := hW8 ▸ zs_37 W7
  have C8 := Lib.hid (ints_any _ _ _ _ W8 ((ho7.below hb8).zs (by decide)) hz8)
  have HB8 := Lib.hid (HB.out.trans (hb8.mono HB.out.size))
  have ht : decide (([3, 7] : List Int) = [3, 7]) = true := by decide
  rw [ht] at C8
  clear ho7 hb8 hz8 ht
  go_wp2_with fail
  refine C8.out.mono ?_
  rintro e W9 ⟨rfl, hb9⟩
  have HB9 := Lib.hid (HB8.out.trans (hb9.mono HB8.out.size))
  clear hb9 C8
  go_wp2_with fail
  go_ret
  exact ⟨rfl, HB9.out⟩
end Go.Proofs.Ytmgipedpggpkoaa
