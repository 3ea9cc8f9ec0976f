/- Types that are made as a program runs: how many cells they have. Over any program. No conditions. -/
import Derived.Test.YtaflgabjpcfgpaaBase
import Derived.ChangeMade
namespace Go.Proofs.Ytaflgabjpcfgpaa
set_option maxRecDepth 100000

def szOf (info : TypeId → Option TypeInfo) (t : TypeId) : Nat := ((info t).map (·.size)).getD 0

theorem loop_spec {σ : Type} {F : Field → σ → Option (ForInStep σ)} (out : σ → Array Field) (cells : σ → Nat) (sz : TypeId → Nat) (ok : TypeId → Prop)
    (hF : ∀ f s r, F f s = some r → ok f.type ∧ ∃ s', r = .yield s' ∧ (∃ g, out s' = (out s).push g ∧ g.type = f.type ∧ g.offset = cells s) ∧ cells s' = cells s + sz f.type) :
    ∀ (l : List Field) (s a : σ), forIn l s F = some a → (∀ f ∈ l, ok f.type) ∧ cells a = cells s + (l.map fun f => sz f.type).sum ∧ ∃ gs : List Field, (out a).toList = (out s).toList ++ gs ∧ gs.map (·.type) = l.map (·.type) ∧
      ∀ (j : Nat) g, gs[j]? = some g → g.offset = cells s + ((l.take j).map fun f => sz f.type).sum := by
  intro l
  induction l with
  | nil =>
    intro s a h
    simp only [List.forIn_nil, pure, Option.some.injEq] at h
    subst h
    exact ⟨by simp, by simp, [], by simp, rfl, by simp⟩
  | cons f l ih =>
    intro s a h
    rw [List.forIn_cons] at h
    simp only [bind, Option.bind_eq_some_iff] at h
    obtain ⟨r, hr, h⟩ := h
    obtain ⟨hok, s', rfl, ⟨g, h1, h2, h3⟩, h4⟩ := hF f s r hr
    simp only at h
    obtain ⟨e0, e1, gs, e2, e3, e4⟩ := ih s' a h
    refine ⟨fun x hx => (List.mem_cons.1 hx).elim (fun e => e ▸ hok) (e0 x), by rw [e1, h4]; simp; omega, g :: gs, by rw [e2, h1]; simp, by simp [e3, h2], ?_⟩
    intro j g' hj
    cases j with
    | zero => simp at hj; subst hj; simp [h3]
    | succ j => rw [e4 j g' (by simpa using hj), h4]; simp; omega

theorem reckonStruct_spec {info : TypeId → Option TypeInfo} {fs : Array Field} {i : TypeInfo} (h : Made.reckonStruct info fs = some i) :
    ∃ out : Array Field, i.desc = .struct out ∧ (∀ f ∈ fs.toList, (info f.type).isSome = true) ∧ i.size = (fs.toList.map fun f => szOf info f.type).sum ∧ out.toList.map (·.type) = fs.toList.map (·.type) ∧
      ∀ (j : Nat) g, out.toList[j]? = some g → g.offset = ((fs.toList.take j).map fun f => szOf info f.type).sum := by
  unfold Made.reckonStruct at h
  simp only [bind, Option.bind_eq_some_iff, pure] at h
  obtain ⟨a, ha, h⟩ := h
  rw [← Array.forIn_toList] at ha
  obtain ⟨e0, e1, gs, e2, e3, e4⟩ := loop_spec (fun s => s.1) (fun s => s.2.1) (szOf info) (fun t => (info t).isSome = true) (fun f s r hr => by
    simp only [Option.bind_eq_some_iff] at hr
    obtain ⟨j, hj, hr⟩ := hr
    have hs : szOf info f.type = j.size := by simp [szOf, hj]
    repeat' first
      | (split at hr)
      | (simp only [Option.bind_eq_some_iff, Option.bind_none, reduceCtorEq] at hr; obtain ⟨_, _, hr⟩ := hr)
      | (simp only [Option.bind_some] at hr)
    all_goals first
      | (cases hr; exact ⟨by rw [hj]; rfl, _, rfl, ⟨_, rfl, rfl, rfl⟩, by rw [hs]⟩)
      | (simp at hr)) _ _ _ ha
  simp only [List.nil_append, Nat.zero_add] at e1 e2 e4
  refine ⟨a.1, ?_, e0, ?_, by rw [e2]; exact e3, by rw [e2]; exact e4⟩
  · split at h <;> (cases h; rfl)
  · split at h <;> (cases h; exact e1)

theorem reckon_spec {info : TypeId → Option TypeInfo} {d : TypeDesc} {i : TypeInfo} (h : Made.reckon info d = some i) :
    (∃ fs out : Array Field, d = .struct fs ∧ i.desc = .struct out ∧ (∀ f ∈ fs.toList, (info f.type).isSome = true) ∧ i.size = (fs.toList.map fun f => szOf info f.type).sum ∧ out.toList.map (·.type) = fs.toList.map (·.type) ∧
      ∀ (j : Nat) g, out.toList[j]? = some g → g.offset = ((fs.toList.take j).map fun f => szOf info f.type).sum) ∨
    (∃ n e, d = .array n e ∧ i.desc = .array n e ∧ (info e).isSome = true ∧ i.size = n * szOf info e) ∨
    (i.size = 1 ∧ (∀ fs, d ≠ .struct fs) ∧ (∀ n e, d ≠ .array n e) ∧ (∀ fs, i.desc ≠ .struct fs) ∧ ∀ n e, i.desc ≠ .array n e) := by
  unfold Made.reckon at h
  split at h
  all_goals try simp only [bind, Option.bind_eq_some_iff, pure] at h
  all_goals try (obtain ⟨j, hj, h⟩ := h)
  all_goals repeat' first
    | (obtain ⟨_, _, h⟩ := h)
    | (split at h)
    | (simp only [Option.bind_eq_some_iff] at h; obtain ⟨_, _, h⟩ := h)
  all_goals first
    | (exact .inr (.inr ⟨rfl, by simp, by simp, by simp [Made.word], by simp [Made.word]⟩))
    | (exact .inr (.inl ⟨_, _, rfl, rfl, by rw [hj]; rfl, by simp [szOf, hj]⟩))
    | (cases h; exact .inr (.inr ⟨rfl, by simp, by simp, by simp [Made.word], by simp [Made.word]⟩))
    | (cases h; exact .inr (.inl ⟨_, _, rfl, rfl, by rw [hj]; rfl, by simp [szOf, hj]⟩))
    | (cases h)
    | skip
  obtain ⟨out, h1⟩ := reckonStruct_spec h
  exact .inl ⟨_, out, rfl, h1⟩

theorem agree (T : Tables) : ∀ (f : Nat) (t : TypeId) (i i' : TypeInfo), Made.infoAt T f t = some i → Made.infoAt T (f + 1) t = some i' → i.size = i'.size := by
  intro f
  induction f with
  | zero => intro t i i' h; cases h
  | succ f ih =>
    intro t i i' h h'
    unfold Made.infoAt at h h'
    split at h
    · rename_i ht
      rw [if_pos ht, h] at h'
      cases h'; rfl
    · rename_i ht
      rw [if_neg ht] at h'
      simp only [Option.bind_eq_some_iff] at h h'
      obtain ⟨d, hd, h⟩ := h
      obtain ⟨d', hd', h'⟩ := h'
      rw [hd] at hd'; cases hd'
      have key : ∀ c, (Made.infoAt T f c).isSome = true → (Made.infoAt T (f + 1) c).isSome = true → szOf (Made.infoAt T f) c = szOf (Made.infoAt T (f + 1)) c := by
        intro c h1 h2
        obtain ⟨x, hx⟩ := Option.isSome_iff_exists.1 h1
        obtain ⟨y, hy⟩ := Option.isSome_iff_exists.1 h2
        simp only [szOf, hx, hy, Option.map_some, Option.getD_some]
        exact ih c x y hx hy
      rcases reckon_spec h with ⟨fs, out, rfl, _, ho, hs, _⟩ | ⟨n, e, rfl, _, ho, hs⟩ | ⟨hs, n1, n2, _⟩
      · rcases reckon_spec h' with ⟨fs', out', e1, _, ho', hs', _⟩ | ⟨n, e, e1, _⟩ | ⟨_, n1, _⟩
        · cases e1
          rw [hs, hs']
          congr 1
          apply List.map_congr_left
          intro x hx
          exact key _ (ho x hx) (ho' x hx)
        · cases e1
        · exact absurd rfl (n1 fs)
      · rcases reckon_spec h' with ⟨fs', out', e1, _⟩ | ⟨n', e', e1, _, ho', hs'⟩ | ⟨_, _, n2, _⟩
        · cases e1
        · cases e1
          rw [hs, hs', key _ ho ho']
        · exact absurd rfl (n2 n e)
      · rcases reckon_spec h' with ⟨fs', out', e1, _⟩ | ⟨n', e', e1, _⟩ | ⟨hs', _⟩
        · exact absurd e1 (n1 fs')
        · exact absurd e1 (n2 n' e')
        · rw [hs, hs']

theorem cells_le (P : Program) (c : TypeId) : P.cellsOf c ≤ szOf (Made.infoAt P.toTables 99) c ∨ (Made.infoAt P.toTables 99 c).isSome = false := by
  by_cases h : (Made.infoAt P.toTables 99 c).isSome = true
  · left
    obtain ⟨i, hi⟩ := Option.isSome_iff_exists.1 h
    unfold Program.cellsOf
    cases h2 : P.info? c with
    | none => simp
    | some i' =>
      simp only [szOf, hi, Option.map_some, Option.getD_some]
      unfold Tables.info? at h2
      split at h2
      · rename_i hc
        unfold Made.infoAt at hi
        rw [if_pos hc, h2] at hi
        cases hi; exact Nat.le_refl _
      · rw [agree P.toTables 99 c i i' hi h2]; exact Nat.le_refl _
  · exact .inr (by simpa using h)
theorem cells_eq (P : Program) (c : TypeId) (h : (Made.infoAt P.toTables 99 c).isSome = true) (h1 : P.cellsOf c = 1) : szOf (Made.infoAt P.toTables 99) c = 1 := by
  obtain ⟨i, hi⟩ := Option.isSome_iff_exists.1 h
  simp only [szOf, hi, Option.map_some, Option.getD_some]
  unfold Program.cellsOf at h1
  cases h2 : P.info? c with
  | none => rw [h2] at h1; cases h1
  | some i' =>
    rw [h2] at h1
    simp only [Option.map_some, Option.getD_some] at h1
    unfold Tables.info? at h2
    split at h2
    · rename_i hc
      unfold Made.infoAt at hi
      rw [if_pos hc, h2] at hi
      cases hi; exact h1
    · rw [agree P.toTables 99 c i i' hi h2, h1]

/-- Beyond the table: what a type has under it, and how it is reckoned. -/
theorem beyond {P : Program} {t : TypeId} {u : TypeDesc} (ht : ¬ t < P.types.size) (h : P.underlying t = some u) :
    ∃ d i, Made.reckon (Made.infoAt P.toTables 99) d = some i ∧ i.desc = u ∧ P.cellsOf t = i.size ∧ P.underlyingId t = t ∧ u.tableOnly = false := by
  unfold Program.underlying at h
  cases hi : P.info? t with
  | none => rw [hi] at h; cases h
  | some i =>
    have hto := Tables.info?_beyond ht hi
    have hnn : ∀ n v, i.desc ≠ .named n v := fun n v e => by rw [e] at hto; cases hto
    rw [hi] at h
    have hu : i.desc = u := by
      split at h
      · rename_i n v hh
        cases hh
        exact absurd rfl (hnn _ _)
      · rename_i j hj hh
        cases hh
        simpa using h
      · cases ‹some i = none›
    have hid : P.underlyingId t = t := by
      unfold Program.underlyingId
      rw [hi]
      split
      · rename_i n v hh
        cases hh
        exact absurd rfl (hnn _ _)
      · rfl
    have hc : P.cellsOf t = i.size := by unfold Program.cellsOf; rw [hi]; rfl
    unfold Tables.info? at hi
    rw [if_neg ht] at hi
    unfold Made.depth at hi
    unfold Made.infoAt at hi
    rw [if_neg ht] at hi
    simp only [Option.bind_eq_some_iff] at hi
    obtain ⟨d, _, hr⟩ := hi
    exact ⟨d, i, hr, hu, hc, hid, by rw [← hu]; exact hto⟩

theorem sum_part (l : List Nat) (j : Nat) (x : Nat) (h : l[j]? = some x) : (l.take j).sum + x ≤ l.sum := by
  induction l generalizing j with
  | nil => simp at h
  | cons y l ih =>
    cases j with
    | zero => simp at h; subst h; simp
    | succ j => have := ih j (by simpa using h); simp; omega

theorem struct_fits {P : Program} {t : TypeId} {out : Array Field} (ht : ¬ t < P.types.size) (h : P.underlying t = some (.struct out)) : ∀ (j : Nat) g, out[j]? = some g → g.offset + P.cellsOf g.type ≤ P.cellsOf t := by
  obtain ⟨d, i, hr, hu, hc, _⟩ := beyond ht h
  intro j g hg
  rcases reckon_spec hr with ⟨fs, out', rfl, e1, ho, hs, et, eo⟩ | ⟨n, e, _, e1, _⟩ | ⟨_, _, _, n1, _⟩
  · rw [hu] at e1; cases e1
    have hg' : out.toList[j]? = some g := by rw [Array.getElem?_toList]; exact hg
    have h1 := eo j g hg'
    have h2 : (fs.toList.map (·.type))[j]? = some g.type := by rw [← et, List.getElem?_map, hg']; rfl
    rw [List.getElem?_map] at h2
    obtain ⟨f, hf, hft⟩ := Option.map_eq_some_iff.1 h2
    rw [hc, hs, h1]
    have h3 := sum_part (fs.toList.map fun f => szOf (Made.infoAt P.toTables 99) f.type) j (szOf (Made.infoAt P.toTables 99) f.type) (by rw [List.getElem?_map, hf]; rfl)
    rw [← List.map_take] at h3
    have h4 := ho f (List.mem_of_getElem? hf)
    rcases cells_le P g.type with h5 | h5
    · rw [← hft] at h5 ⊢; omega
    · rw [← hft, h4] at h5; cases h5
  · rw [hu] at e1; cases e1
  · exact absurd hu (n1 out)
theorem array_fits {P : Program} {t : TypeId} {m : Nat} {e : TypeId} (ht : ¬ t < P.types.size) (h : P.underlying t = some (.array m e)) : m * P.cellsOf e ≤ P.cellsOf t := by
  obtain ⟨d, i, hr, hu, hc, _⟩ := beyond ht h
  rcases reckon_spec hr with ⟨fs, out', _, e1, _⟩ | ⟨n, e', _, e1, ho, hs⟩ | ⟨_, _, _, _, n1⟩
  · rw [hu] at e1; cases e1
  · rw [hu] at e1; cases e1
    rw [hc, hs]
    rcases cells_le P e with h5 | h5
    · exact Nat.mul_le_mul_left m h5
    · rw [ho] at h5; cases h5
  · exact absurd hu (n1 m e)
/-- A made struct all of whose fields have one cell. -/
theorem struct_ones {P : Program} {t : TypeId} {out : Array Field} (ht : ¬ t < P.types.size) (h : P.underlying t = some (.struct out)) (h1 : ∀ (j : Nat) g, out[j]? = some g → P.cellsOf g.type = 1) : P.cellsOf t = out.size := by
  obtain ⟨d, i, hr, hu, hc, _⟩ := beyond ht h
  rcases reckon_spec hr with ⟨fs, out', rfl, e1, ho, hs, et, eo⟩ | ⟨n, e, _, e1, _⟩ | ⟨_, _, _, n1, _⟩
  · rw [hu] at e1; cases e1
    rw [hc, hs]
    have hl : out.size = fs.toList.length := by
      have := congrArg List.length et
      simpa using this
    rw [hl]
    have hall : ∀ f ∈ fs.toList, szOf (Made.infoAt P.toTables 99) f.type = 1 := by
      intro f hf
      obtain ⟨j, hj, rfl⟩ := List.getElem_of_mem hf
      have hj' : j < out.size := by omega
      have h2 : (out.toList.map (·.type))[j]? = (fs.toList.map (·.type))[j]? := by rw [et]
      rw [List.getElem?_map, List.getElem?_map, Array.getElem?_toList, Array.getElem?_eq_getElem hj', List.getElem?_eq_getElem hj] at h2
      simp only [Option.map_some, Option.some.injEq] at h2
      have h3 := h1 j _ (Array.getElem?_eq_getElem hj')
      rw [h2] at h3
      exact cells_eq P _ (ho _ hf) h3
    clear hs et eo hl ho
    generalize fs.toList = l at *
    clear hr
    induction l with
    | nil => rfl
    | cons f l ih => simp [hall f (by simp), ih (fun x hx => hall x (List.mem_cons_of_mem _ hx))]; omega
  · rw [hu] at e1; cases e1
  · exact absurd hu (n1 out)
#print axioms struct_ones
end Go.Proofs.Ytaflgabjpcfgpaa
