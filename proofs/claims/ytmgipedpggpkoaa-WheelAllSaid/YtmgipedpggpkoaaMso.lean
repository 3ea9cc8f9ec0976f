/- A sort of timers by a function. -/
import Derived.Test.YtmgipedpggpkoaaMli
import Derived.Shelf.SlSortCmp.NoneTotal
import Derived.Test.YtmgipedpggpkoaaShelf
namespace Go.Proofs.Ytmgipedpggpkoaa
set_option maxRecDepth 100000
open Go.RowKit Go.Maps Go.Shelf Go.Sort

/-- What the comparison of two timers answers: less than none where the one is ahead of the other. -/
structure CmpTm (cf : Tm → Tm → Int) : Prop where
  lt : ∀ x y, cf x y < 0 ↔ ltT x y
instance ltTd (x y : Tm) : Decidable (ltT x y) := by unfold ltT; infer_instance
theorem flat_len (l : List Tm) : (gflat RM l).length = l.length * 2 := gflat_len (R := RM) l
theorem CmpTm.of {cf : Tm → Tm → Int} (h : CmpTm cf) (x y : Tm) : ltOf cf x y = decide (ltT x y) := by
  unfold ltOf
  exact decide_eq_decide.2 (h.lt x y)
theorem CmpTm.swo {cf : Tm → Tm → Int} (h : CmpTm cf) : SWO (ltOf cf) where
  irrefl x := by rw [h.of]; simp [ltT]
  trans x y z h1 h2 := by
    rw [h.of] at h1 h2 ⊢
    have a := of_decide_eq_true h1
    have b := of_decide_eq_true h2
    exact decide_eq_true (by unfold ltT at a b ⊢; omega)
  ntrans x y z h1 h2 := by
    rw [h.of] at h1 h2 ⊢
    have a := of_decide_eq_false h1
    have b := of_decide_eq_false h2
    exact decide_eq_false (by unfold ltT at a b ⊢; omega)
theorem get_flat (l : List Tm) (t : Nat) (h : t < l.length * 2) : (flatK tmc 2 l.toArray)[t]! = (gflat RM l)[t]?.getD default := by
  have h1 : t / 2 < l.length := by omega
  have e := gflat_at (R := RM) l (t / 2) (t % 2) h1 (Nat.mod_lt _ (by decide))
  have e2 : t / 2 * RM.K + t % 2 = t := by show t / 2 * 2 + t % 2 = t; omega
  rw [e2] at e
  rw [get_flatK _ _ _ _ (by simpa using h), e]
  have e3 : (l.toArray)[t / 2]! = l.getD (t / 2) RM.d := by
    simp [getElem!_pos, h1, List.getD]
    rfl
  rw [e3]
  show (RM.cl (l.getD (t / 2) RM.d))[t % 2]! = _
  rw [List.getElem!_eq_getElem?_getD]
  rfl
theorem holds_own {w : World} {S : Nat} {a : Option Addr} {c : Nat} {l : List Tm} (h : OwM w S (.slice a l.length c) l) (hne : l ≠ []) :
    ∃ g, a = some ⟨g, 0, none⟩ ∧ S ≤ g ∧ g < w.heap.size ∧ l.length ≤ maxLen ∧ HoldsK tmc 2 w g 0 l.toArray := by
  rcases h.2 with ⟨_, e⟩ | ⟨g, cap, cur, hv, hb, hg, hn, hm, hs, ht⟩
  · exact absurd (List.eq_nil_of_length_eq_zero e) hne
  · cases hv
    refine ⟨g, rfl, hb, (Array.getElem?_eq_some_iff.1 hg).1, Nat.le_trans hn hm, fun j hj => ?_⟩
    have hj' : j < l.length * 2 := by simpa using hj
    refine ⟨?_, by simp [World.frozen?, hg]⟩
    have hjc : j < cur.size := by
      have : l.length * 2 ≤ c * 2 := Nat.mul_le_mul_right 2 hn
      have hs' : cur.size = c * 2 := hs
      omega
    have e1 : (cur.toList.take (l.length * RM.K))[j]? = (gflat RM l)[j]? := by rw [ht]
    rw [List.getElem?_take, if_pos (show j < l.length * RM.K from hj'), Array.getElem?_toList] at e1
    rw [Nat.zero_add, cell_of_row _ _ _ _ _ _ hg, e1]
    show _ = some (id (flatK tmc 2 l.toArray)[j]!)
    rw [get_flat l j hj', ← e1, Array.getElem?_eq_getElem hjc]
    rfl
theorem own_put {w : World} {S : Nat} {g c q : Nat} {l l' : List Tm} (h : OwM w S (.slice (some ⟨g, 0, none⟩) l.length c) l) (hl : l'.length = l.length) :
    OwM (putRowK tmc 2 (Sort.ahead w q) g 0 l'.toArray) S (.slice (some ⟨g, 0, none⟩) l.length c) l' := by
  rcases h.2 with ⟨e, _⟩ | ⟨g', cap, cur, hv, hb, hg, hn, hm, hs, ht⟩
  · cases e
  · cases hv
    have hs' : cur.size = c * 2 := hs
    have hn2 : l.length * 2 ≤ c * 2 := Nat.mul_le_mul_right 2 hn
    unfold OwM
    rw [hl]
    refine ⟨(flat_len l').trans (by rw [hl]; rfl), .inr ⟨g, c, putCells id 0 (flatK tmc 2 l'.toArray) cur, rfl, hb, ?_, hn, hm, by simpa [putCells] using hs, ?_⟩⟩
    · simp [putRowK, putRow, mapBlock, Sort.ahead, Array.getElem?_modify, hg, onCells]
    · apply List.ext_getElem?
      intro j
      rw [List.getElem?_take, Array.getElem?_toList]
      by_cases hj : j < l.length * 2
      · have hjc : j < cur.size := by omega
        rw [if_pos (show j < l.length * RM.K from hj)]
        simp only [putCells, Array.getElem?_mapIdx, Array.getElem?_eq_getElem hjc, Option.map_some]
        rw [if_pos (by simp [hl]; omega), Nat.sub_zero, get_flat l' j (by omega)]
        have : j < (gflat RM l').length := Nat.lt_of_lt_of_eq hj (by rw [← hl]; exact (flat_len l').symm)
        rw [List.getElem?_eq_getElem this]; rfl
      · rw [if_neg (show ¬ j < l.length * RM.K from hj), List.getElem?_eq_none (Nat.le_trans (Nat.le_of_eq ((flat_len l').trans (by rw [hl]))) (Nat.le_of_not_lt hj))]
theorem chg_put {w : World} {g q : Nat} {l : List Tm} {os : Array Obj} {F : Nat → Prop} (hF : F g) : Chg F w (grow (putRowK tmc 2 (Sort.ahead w q) g 0 l.toArray) os) :=
  ⟨rfl, rfl, rfl, by simp [putRowK, putRow, mapBlock, Sort.ahead], fun k hk hn => by
    have hgk : g ≠ k := fun e => hn (e ▸ hF)
    rw [heap_grow_old _ _ (by simpa [putRowK, putRow, mapBlock, Sort.ahead] using hk)]
    simp [putRowK, putRow, mapBlock, Sort.ahead, Array.getElem?_modify, hgk]⟩
theorem own_grow {w : World} {os : Array Obj} {S : Nat} {v : Value} {l : List Tm} (h : OwM w S v l) : OwM (grow w os) S v l := by
  obtain ⟨h1, h2 | ⟨g, cap, cur, h2, h3, h4, h5⟩⟩ := h
  · exact ⟨h1, .inl h2⟩
  · refine ⟨h1, .inr ⟨g, cap, cur, h2, h3, ?_, h5⟩⟩
    rw [heap_grow_old _ _ (Array.getElem?_eq_some_iff.1 h4).1]; exact h4
theorem sorted_of {cf : Tm → Tm → Int} (h : CmpTm cf) {l : List Tm} (hnd : (l.map (·.2)).Nodup) {d : Array Tm} (hp : PermIn 0 l.toArray.size l.toArray d) (hs : SortedIn (ltOf cf) 0 l.toArray.size d) : d.toList.Perm l ∧ d.toList.Pairwise ltT := by
  have hz : d.size = l.length := by have := hp.1; simpa using this
  have hpp : d.toList.Perm l := by
    have h2 := hp.2.2
    rw [Array.extract_eq_self_of_le (by simp; omega), Array.extract_eq_self_of_le (by simp)] at h2
    exact h2
  refine ⟨hpp, List.pairwise_iff_getElem.2 fun i j hi hj hij => ?_⟩
  have hs1 := hs i j (Nat.zero_le _) hij (by simpa [← hz] using hj)
  rw [h.of] at hs1
  have hnd' : (d.toList.map (·.2)).Nodup := (hpp.map _).nodup_iff.2 hnd
  have hne : (d.toList[i]).2 ≠ (d.toList[j]).2 := by
    intro e
    have hi' : i < (d.toList.map (·.2)).length := by simpa using hi
    have hj' : j < (d.toList.map (·.2)).length := by simpa using hj
    have := (List.pairwise_iff_getElem.1 hnd') i j hi' hj' hij
    apply this
    rw [List.getElem_map, List.getElem_map]
    exact e
  have e1 : d[i]! = d.toList[i] := by simp [getElem!_pos, show i < d.size by simpa using hi]
  have e2 : d[j]! = d.toList[j] := by simp [getElem!_pos, show j < d.size by simpa using hj]
  rw [e1, e2] at hs1
  have hs2 := of_decide_eq_false hs1
  unfold ltT at *
  omega
theorem sortsTm {cf : Tm → Tm → Int} (h : CmpTm cf) (hc : ∀ (x y : Tm) (W : World), Calls Try.prog 28 #[.agg (tmc x).toArray, .agg (tmc y).toArray] W fun e w' => e = .returned (.int .i64 (cf x y)) ∧ ∃ q os', w' = grow (W.drewN q) os') : SortsTm := by
  intro w S a c xs hown hS hnd h10
  by_cases hne : xs = []
  · subst hne
    have hnone := AnyF.slices_SortFunc_none layTm a c (.func (.func 28) #[] #[]) w
    change Calls Try.prog 27 _ _ _ at hnone
    refine hnone.mono ?_
    rintro e w' ⟨rfl, rfl⟩
    exact ⟨rfl, [], .refl _, .nil, hown, Chg.refl _ _⟩
  · obtain ⟨g, rfl, hSg, hlt, hlen, hH⟩ := holds_own hown hne
    have eg : ∀ args w, (callFunc 28 args).run Try.prog w = .ok (.enter 28 args) w := enters_of Try.func28 (by kernel_rfl) rfl
    have hcon := AnyQ.slices_SortFunc layTm 2 Try.isAgg32 Try.sizeOf32 tmc (fun _ => rfl) tmc_ones cf h.swo 28 #[] g 0 c xs.toArray w eg (fun _ _ _ _ x y => hc x y _) hH hlt (by simp; omega)
    change Calls Try.prog 27 _ _ _ at hcon
    refine hcon.mono ?_
    rintro e w' ⟨rfl, d', n, os, hp, hs, rfl⟩
    obtain ⟨h1, h2⟩ := sorted_of h hnd hp hs
    have h3 : d'.toList.length = xs.length := h1.length_eq
    have h4 := own_grow (os := os) (own_put (q := n) hown h3)
    have e5 : d'.toList.toArray = d' := by simp
    rw [e5] at h4
    have h6 : Chg (fun k => (Value.slice (some ⟨g, 0, none⟩) xs.length c).ownBlock = some k) w (grow (putRowK tmc 2 (Sort.ahead w n) g 0 d'.toList.toArray) os) := chg_put rfl
    rw [e5] at h6
    exact ⟨rfl, d'.toList, h1, h2, h4, h6⟩
end Go.Proofs.Ytmgipedpggpkoaa
