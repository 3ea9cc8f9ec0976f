/- The program's taker in memory: a map of the batches that are held, made once. No conditions. The program's New, Held, Ack. No conditions. The program's Ack. No conditions. -/
import Derived.Test.YtfiaghfaijlfjaaGreatPa
import Derived.Test.YtfiaghfaijlfjaaGreatOpp
import Derived.Test.YtfiaghfaijlfjaaGreatAm
import Derived.Maps.RangeWalk
import Derived.Maps.Views
import Derived.Deep.RegionHeld
namespace Go.Proofs.YtfiaghfaijlfjaaGreat
set_option maxRecDepth 100000
set_option linter.unusedVariables false
open Go.RowKit

open Go.Maps

/-- A map of slices that holds just the batches of H, the objects of each in a block of F of its own. -/
structure Mtk (w : World) (F : Nat → Prop) (b bm : Nat) (D : DataW Unit) (H : List Bt) : Prop where
  has : ∀ k : Int, Maps.has D (.int .i64 k) = (findH H k).isSome
  at_ : ∀ h ∈ H, ∃ g c, (∀ z, D.atKey (.int .i64 h.1) z = sdat g h.2.length c) ∧ Os w (.slice (some ⟨g, 0, none⟩) h.2.length c) h.2 ∧ F g ∧ g ≠ b ∧ g ≠ bm
  size : Maps.size D = H.length
  tidy : Tidy D
theorem mtk_nil (w : World) (F : Nat → Prop) (b bm : Nat) : Mtk w F b bm (.map []) [] := ⟨fun _ => rfl, (fun _ hy => nomatch hy), rfl, tidy_empty⟩
theorem keyLit (k : Int) : WideAt.IsKeyLit (.int .i64 k) := by first | trivial | simp [WideAt.IsKeyLit] | exact rfl
theorem lit_ne {a b : Int} (h : a ≠ b) : (Lit.int .i64 a) ≠ .int .i64 b := fun e => h (by cases e; rfl)
theorem Mtk.put {w : World} {F : Nat → Prop} {b bm : Nat} {D : DataW Unit} {H : List Bt} (h : Mtk w F b bm D H) {n : Int} {ys : List Ob} (hn : findH H n = none) {g c : Nat} (ho : Os w (.slice (some ⟨g, 0, none⟩) ys.length c) ys) (hF : F g) (hb : g ≠ b) (hm : g ≠ bm) : Mtk w F b bm (D.put (.int .i64 n) (sdat g ys.length c)) (H ++ [(n, ys)]) := by
  refine ⟨fun k => ?_, fun y hy => ?_, ?_, h.tidy.put (keyLit n) _⟩
  · by_cases hk : k = n
    · subst hk
      rw [has_put_same h.tidy.isMap (keyLit k)]
      unfold findH at hn ⊢
      rw [List.find?_append, hn]
      simp
    · rw [has_put_other (lit_ne hk), h.has]
      unfold findH
      rw [List.find?_append]
      have : ([(n, ys)] : List Bt).find? (fun h => h.1 == k) = none := by
        rw [List.find?_cons_of_neg (by simpa using fun e => hk e.symm)]
        rfl
      rw [this, Option.or_none]
  · rcases List.mem_append.1 hy with hy | hy
    · obtain ⟨g', c', k1, k2⟩ := h.at_ y hy
      exact ⟨g', c', fun z => by rw [atKey_put_other (lit_ne (findH_none hn y hy))]; exact k1 z, k2⟩
    · rw [List.mem_singleton.1 hy]
      exact ⟨g, c, fun z => atKey_put_same h.tidy.isMap (keyLit n) _ z, ho, hF, hb, hm⟩
  · rw [size_put h.tidy, h.has, h.size, hn, List.length_append]
    rfl
theorem findH_drop (H : List Bt) (n k : Int) : findH (dropH H n) k = if k = n then none else findH H k := by
  unfold findH dropH
  induction H with
  | nil => split <;> rfl
  | cons a H ih =>
    by_cases ha : a.1 = n
    · rw [List.filter_cons_of_neg (by simp [ha]), ih]
      by_cases hk : k = n
      · rw [if_pos hk, if_pos hk]
      · rw [if_neg hk, if_neg hk, List.find?_cons_of_neg (by simp [ha]; exact fun e => hk e.symm)]
    · rw [List.filter_cons_of_pos (by simpa using ha)]
      by_cases hak : a.1 = k
      · rw [List.find?_cons_of_pos (by simpa using hak), List.find?_cons_of_pos (by simpa using hak), if_neg (fun e => ha (hak.trans e))]
      · rw [List.find?_cons_of_neg (by simpa using hak), List.find?_cons_of_neg (by simpa using hak), ih]
theorem Mtk.del {w : World} {F : Nat → Prop} {b bm : Nat} {D : DataW Unit} {H : List Bt} (h : Mtk w F b bm D H) {n : Int} {x : Bt} (hx : findH H n = some x) (nd : (nums H).Nodup) : Mtk w F b bm (D.del (.int .i64 n)) (dropH H n) := by
  refine ⟨fun k => ?_, fun y hy => ?_, ?_, h.tidy.del _⟩
  · rw [findH_drop]
    by_cases hk : k = n
    · subst hk
      rw [has_del_same, if_pos rfl]
      rfl
    · rw [has_del_other (lit_ne hk), h.has, if_neg hk]
  · obtain ⟨h1, h2⟩ := mem_dropH.1 hy
    obtain ⟨g', c', k1, k2⟩ := h.at_ y h1
    exact ⟨g', c', fun z => by rw [atKey_del_other (lit_ne h2)]; exact k1 z, k2⟩
  · have h2 := size_del (k := .int .i64 n) h.tidy
    rw [h.has, h.size, hx] at h2
    have h1 := dropH_len hx nd
    simp only [Option.isSome_some, if_true] at h2
    omega
theorem Mtk.chg {w w' : World} {F G : Nat → Prop} {b bm : Nat} {D : DataW Unit} {H : List Bt} (h : Mtk w F b bm D H) (hc : Chg G w w') (hG : ∀ k, F k → k ≠ b → k ≠ bm → ¬ G k) : Mtk w' F b bm D H :=
  ⟨h.has, fun y hy => by
    obtain ⟨g, c, k1, k2, k3, k4, k5⟩ := h.at_ y hy
    exact ⟨g, c, k1, k2.chg hc (fun a n c' e _ => by cases e; exact hG g k3 k4 k5), k3, k4, k5⟩, h.size, h.tidy⟩
theorem Mtk.mono {w : World} {F F' : Nat → Prop} {b bm : Nat} {D : DataW Unit} {H : List Bt} (h : Mtk w F b bm D H) (hF : ∀ k, F k → F' k) : Mtk w F' b bm D H :=
  ⟨h.has, fun y hy => by
    obtain ⟨g, c, k1, k2, k3, k4⟩ := h.at_ y hy
    exact ⟨g, c, k1, k2, hF g k3, k4⟩, h.size, h.tidy⟩
theorem MapI.tight {w : World} {bm n : Nat} {D : DataW Unit} (h : MapI w bm n D) : MapI w bm (Maps.size D) D := by
  obtain ⟨es, clock, h1, h2, _, h4⟩ := h
  refine ⟨es, clock, h1, h2, ?_, h4⟩
  rw [h4, Maps.size_eq, length_sorted]
  simp
theorem MapI.lt {w : World} {bm n : Nat} {D : DataW Unit} (h : MapI w bm n D) : bm < w.heap.size := World.ownsMap.lt h
/-- The program's taker, its map made at block bm: at block b, in the blocks of F. -/
structure PTm (w : World) (F : Nat → Prop) (b bm : Nat) (t : Tk) : Prop where
  q : WQ w b t.nx (some bm)
  fb : F b
  fm : F bm
  ne : bm ≠ b
  lt : ∀ k, F k → k < w.heap.size
  m : ∃ D, MapI w bm (Maps.size D) D ∧ Mtk w F b bm D t.H
/-- .. whether it was made or not. -/
def PT0 (w : World) (F : Nat → Prop) (b : Nat) (t : Tk) : Prop := (∃ bm, PTm w F b bm t) ∨ (WQ w b t.nx none ∧ F b ∧ (∀ k, F k → k < w.heap.size) ∧ t.H = [])
def PT (w : World) (F : Nat → Prop) (b : Nat) (t : Tk) : Prop := TkOk t ∧ PT0 w F b t
section
variable {w w' : World} {F F' G : Nat → Prop} {b bm : Nat} {t : Tk}
theorem PTm.keep (h : PTm w F b bm t) (hc : Chg G w w') (hG : ∀ k, F k → ¬ G k) : PTm w' F b bm t := by
  obtain ⟨D, h1, h2⟩ := h.m
  exact ⟨h.q.chg hc (hG b h.fb), h.fb, h.fm, h.ne, fun k hk => Nat.lt_of_lt_of_le (h.lt k hk) hc.size, D, h1.chg hc (hG bm h.fm), h2.chg hc (fun k hk _ _ => hG k hk)⟩
theorem PTm.below (h : PTm w F b bm t) (hb : Below w.heap.size w w') : PTm w' F b bm t := h.keep (G := fun _ => False) (chg0 hb) (fun _ _ g => g)
theorem PTm.mono (h : PTm w F b bm t) (hF : ∀ k, F k → F' k) (hl : ∀ k, F' k → k < w.heap.size) : PTm w F' b bm t := by
  obtain ⟨D, h1, h2⟩ := h.m
  exact ⟨h.q, hF b h.fb, hF bm h.fm, h.ne, hl, D, h1, h2.mono hF⟩
theorem PT0.lt (h : PT0 w F b t) : ∀ k, F k → k < w.heap.size := h.elim (fun ⟨_, h⟩ => h.lt) (fun h => h.2.2.1)
theorem PT0.fb (h : PT0 w F b t) : F b := h.elim (fun ⟨_, h⟩ => h.fb) (fun h => h.2.1)
theorem PT0.cN (h : PT0 w F b t) : w.cell? ⟨b, 0, none⟩ = some (.int .i64 t.nx) := h.elim (fun ⟨_, h⟩ => h.q.cN) (fun h => h.1.cN)
theorem PT0.keep (h : PT0 w F b t) (hc : Chg G w w') (hG : ∀ k, F k → ¬ G k) : PT0 w' F b t := by
  rcases h with ⟨bm, h⟩ | ⟨h1, h2, h3, h4⟩
  · exact .inl ⟨bm, h.keep hc hG⟩
  · exact .inr ⟨h1.chg hc (hG b h2), h2, fun k hk => Nat.lt_of_lt_of_le (h3 k hk) hc.size, h4⟩
theorem PT0.below (h : PT0 w F b t) (hb : Below w.heap.size w w') : PT0 w' F b t := h.keep (G := fun _ => False) (chg0 hb) (fun _ _ g => g)
theorem PT.keep (h : PT w F b t) (hc : Chg G w w') (hG : ∀ k, F k → ¬ G k) : PT w' F b t := ⟨h.1, h.2.keep hc hG⟩
theorem PT.below (h : PT w F b t) (hb : Below w.heap.size w w') : PT w' F b t := ⟨h.1, h.2.below hb⟩
theorem PT.drew (h : PT w F b t) : PT w.drew F b t := h.keep (G := fun _ => False) ((Chg.refl _ w).drew) (fun _ _ g => g)
theorem PTm.drew (h : PTm w F b bm t) : PTm w.drew F b bm t := h.keep (G := fun _ => False) ((Chg.refl _ w).drew) (fun _ _ g => g)
/-- The map, that is there already. -/
theorem hold_m (h : PTm w F b bm t) : Calls Tryz.prog 25 #[.pointer (some ⟨b, 0, none⟩)] w fun e w' => e = .returned (.map (some bm)) ∧ Below w.heap.size w w' := hold_old b bm t.nx w h.q
/-- The map, made if it was not. -/
theorem hold_any (h : PT0 w F b t) : Calls Tryz.prog 25 #[.pointer (some ⟨b, 0, none⟩)] w fun e w' => ∃ bm F', e = .returned (.map (some bm)) ∧ PTm w' F' b bm t ∧ Chg F w w' ∧ (∀ k, F k → F' k) ∧ ∀ k, F' k → F k ∨ w.heap.size ≤ k := by
  rcases h with ⟨bm, h⟩ | ⟨h1, h2, h3, h4⟩
  · refine (hold_m h).mono ?_
    rintro e w' ⟨rfl, hb⟩
    exact ⟨bm, F, rfl, h.below hb, chg0 hb, fun k hk => hk, fun k hk => .inl hk⟩
  · refine (hold_new b t.nx w h1).mono ?_
    rintro e w' ⟨bm, rfl, k1, k2, k3, k4⟩
    have := h1.lt
    refine ⟨bm, fun k => F k ∨ k = bm, rfl, ⟨k1, .inl h2, .inr rfl, by omega, fun k hk => hk.elim (fun h => Nat.lt_of_lt_of_le (h3 k h) k4.size) (fun e => by rw [show k = bm from e]; exact MapI.lt k2), .map [], k2, ?_⟩, k4.mono (fun k _ e => by rw [show k = b from e]; exact h2), fun k hk => .inl hk, fun k hk => hk.imp (fun h => h) (fun e => by rw [show k = bm from e]; exact k3)⟩
    rw [h4]
    exact mtk_nil _ _ _ _
/-- .. of a right taker. -/
theorem hold_pt (h : PT w F b t) : Calls Tryz.prog 25 #[.pointer (some ⟨b, 0, none⟩)] w fun e w' => ∃ bm F', e = .returned (.map (some bm)) ∧ PTm w' F' b bm t ∧ Chg F w w' ∧ (∀ k, F k → F' k) ∧ ∀ k, F' k → F k ∨ w.heap.size ≤ k := hold_any h.2
theorem underI : Tryz.prog.underlying 3 = some (.int .i64) := by kernel_rfl
theorem underMP : Tryz.prog.underlying 75 = some (.map 3 29) := by kernel_rfl
theorem lawI : Keyed Tryz.prog 3 := int_keyed underI
theorem zeroS (w : World) : (zeroValue 29).run Tryz.prog w = .ok (.slice none 0 0) w := by kernel_rfl
theorem wfI {x : Int} (h : 0 ≤ x ∧ x ≤ 65535) : (Lit.int .i64 x).wf = true := WalkArith.wf_i64 (by omega)
theorem keyI {x : Int} (h : 0 ≤ x ∧ x ≤ 65535) : keyOf Tryz.prog 3 (.int .i64 x) = some (.int .i64 x) := keyOf_int_mk underI (wfI h)
/-- A number that is looked up. -/
theorem PTm.look (h : PTm w F b bm t) {n : Int} (hn : 0 ≤ n ∧ n ≤ 65535) : ∃ v, (Instr.lookup 75 (.map (some bm)) (.int .i64 n) true).run Tryz.prog w = .ok (.tuple #[v, .bool (findH t.H n).isSome]) w ∧
    ((findH t.H n = none ∧ v = .slice none 0 0) ∨ ∃ x g c, findH t.H n = some x ∧ v = .slice (some ⟨g, 0, none⟩) x.2.length c ∧ Os w v x.2 ∧ F g ∧ g ≠ b ∧ g ≠ bm) := by
  obtain ⟨D, h1, h2⟩ := h.m
  obtain ⟨v, ps, hrun, hv⟩ := World.ownsMap.look_ok h1 lawI underMP (zeroS w) (zd := .nil) (zp := []) rfl (keyI hn)
  rw [h2.has] at hrun
  refine ⟨v, hrun, ?_⟩
  cases hf : findH t.H n with
  | none =>
    refine .inl ⟨rfl, ?_⟩
    rw [atKey_of_not_has (by rw [h2.has, hf]; rfl)] at hv
    exact sliceElem_nil hv
  | some x =>
    obtain ⟨hx, rfl⟩ := findH_some hf
    obtain ⟨g, c, k1, k2, k3⟩ := h2.at_ x hx
    rw [k1] at hv
    obtain rfl := sliceElem_inv hv
    exact .inr ⟨x, g, c, rfl, rfl, k2, k3⟩
theorem turned_chg {bm : Nat} (h : w.mapTurned w' bm) : Chg (fun k => k = bm) w w' := (Chg.refl _ w).grown h.grown (fun k hk => .inl (by cases hk; rfl))
/-- A batch is stored. -/
theorem PTm.store (h : PTm w F b bm t) {n : Int} {ys : List Ob} (hn : 0 ≤ n ∧ n ≤ 65535) (hf : findH t.H n = none) (hl : t.H.length ≤ 1000) {g c : Nat} (ho : Os w (.slice (some ⟨g, 0, none⟩) ys.length c) ys) (hF : F g) (hb : g ≠ b) (hm : g ≠ bm) :
    ∃ w', (Instr.mapUpdate 75 (.map (some bm)) (.int .i64 n) (.slice (some ⟨g, 0, none⟩) ys.length c)).run Tryz.prog w = .ok () w' ∧ PTm w' F b bm ⟨t.nx, t.H ++ [(n, ys)]⟩ ∧ Chg (fun k => k = bm) w w' := by
  obtain ⟨D, h1, h2⟩ := h.m
  obtain ⟨w', hrun, r1, r2⟩ := World.ownsMap.store h1 lawI underMP (by rw [h2.size]; unfold maxLen; omega) (val := .slice (some ⟨g, 0, none⟩) ys.length c) (d := sdat g ys.length c) (ps := []) (keyI hn) rfl
  have hc := turned_chg r2
  have h3 := h2.put hf ho hF hb hm
  exact ⟨w', hrun, ⟨h.q.chg hc (fun e => h.ne e.symm), h.fb, h.fm, h.ne, fun k hk => Nat.lt_of_lt_of_le (h.lt k hk) hc.size, _, MapI.tight r1, h3.chg hc (fun k _ _ hk => hk)⟩, hc⟩
/-- One is taken out. -/
theorem PTm.drop (h : PTm w F b bm t) {x : Bt} (hn : 0 ≤ t.nx ∧ t.nx ≤ 65535) (hf : findH t.H t.nx = some x) (nd : (nums t.H).Nodup) {ty : TypeId} :
    ∃ w', (Builtin.delete_ #[75, 3] ty #[.map (some bm), .int .i64 t.nx]).run Tryz.prog w = .ok (.tuple #[]) w' ∧ PTm w' F b bm ⟨t.nx, dropH t.H t.nx⟩ ∧ Chg (fun k => k = bm) w w' := by
  obtain ⟨D, h1, h2⟩ := h.m
  obtain ⟨w', hrun, r1, r2⟩ := World.ownsMap.drop h1 lawI underMP (keyI hn) ty
  have hc := turned_chg r2
  have h3 := h2.del hf nd
  exact ⟨w', hrun, ⟨h.q.chg hc (fun e => h.ne e.symm), h.fb, h.fm, h.ne, fun k hk => Nat.lt_of_lt_of_le (h.lt k hk) hc.size, _, MapI.tight r1, h3.chg hc (fun k _ _ hk => hk)⟩, hc⟩
/-- The next number is another. -/
theorem PTm.next (h : PTm w F b bm t) (n : Int) : PTm (w.setCell ⟨b, 0, none⟩ (.int .i64 n)) F b bm ⟨n, t.H⟩ := by
  obtain ⟨D, h1, h2⟩ := h.m
  have hc := chg_pt w b 0 (.int .i64 n)
  exact ⟨h.q.next n, h.fb, h.fm, h.ne, fun k hk => Nat.lt_of_lt_of_le (h.lt k hk) hc.size, D, h1.chg hc h.ne, h2.chg hc (fun k _ hk _ => hk)⟩
/-- Its keys. -/
theorem PTm.keys (h : PTm w F b bm t) (nd : (nums t.H).Nodup) : ∃ D, MapI w bm (Maps.size D) D ∧ Maps.size D = t.H.length ∧ (nums t.H).Perm (intKeys D) := by
  obtain ⟨D, h1, h2⟩ := h.m
  refine ⟨D, h1, h2.size, ?_⟩
  obtain ⟨es, hD, hpw, _⟩ := World.ownsMap.entries h1 lawI
  obtain ⟨es', hD', hko⟩ := World.ownsMap.keysOf h1
  obtain rfl : es = es' := by rw [hD] at hD'; simpa using hD'
  have hh := h2.has
  subst hD
  refine perm_intKeys hpw (fun p hp => by obtain ⟨v, hv⟩ := hko p hp; obtain ⟨x, _, hx, _⟩ := Maps.keyOf_i64 underI hv; exact ⟨x, hx⟩) nd (fun x => ?_)
  rw [hh]
  unfold nums
  rw [List.mem_map]
  constructor
  · rintro ⟨y, hy, rfl⟩
    unfold findH
    rw [List.find?_isSome]
    exact ⟨y, hy, by simp⟩
  · intro hs
    obtain ⟨y, hy⟩ := Option.isSome_iff_exists.1 hs
    obtain ⟨h3, h4⟩ := findH_some hy
    exact ⟨y, h3, h4⟩
end
end Go.Proofs.YtfiaghfaijlfjaaGreat

namespace Go.Proofs.YtfiaghfaijlfjaaGreat
set_option maxRecDepth 100000
set_option linter.unusedVariables false
open Go.RowKit

open Go.Maps
theorem TkOk.few {t : Tk} (h : TkOk t) : t.H.length ≤ 16 := held_le h
theorem perm_left {ss xs : List Int} (hp : ss.Perm xs) (f : Int) : srt f ss = srt f xs :=
  nice_srt f xs (srt f ss) (srt_nice f ss) (fun x => by
    rw [srt_mem]
    constructor
    · rintro ⟨a, ha, e⟩
      exact ⟨a, hp.mem_iff.1 ha, e⟩
    · rintro ⟨a, ha, e⟩
      exact ⟨a, hp.mem_iff.2 ha, e⟩)
section
variable {w : World} {F : Nat → Prop} {b : Nat} {t : Tk}
theorem tnew_any (w : World) : Calls Tryz.prog 6 #[] w fun e w' => ∃ b F, e = .returned (.pointer (some ⟨b, 0, none⟩)) ∧ PT w' F b tk0 ∧ (∀ k, F k → w.heap.size ≤ k) ∧ Below w.heap.size w w' := by
  have hq : Hid (PT (w.alloc (.cells #[.int .i64 0, .int .u32 0, .int .i32 0, .int .u32 0, .map none] 77)) (fun k => k = w.heap.size) w.heap.size tk0) :=
    ⟨tkok_new, .inr ⟨⟨by simp [tk0], by simp, by simp, by simp, fun j => by simp⟩, rfl, fun k hk => by rw [show k = _ from hk]; simp, rfl⟩⟩
  have hb : Hid (Below w.heap.size w (w.alloc (.cells #[.int .i64 0, .int .u32 0, .int .i32 0, .int .u32 0, .map none] 77))) := (Below.refl _ w).alloc (Nat.le_refl _) _
  go_enter Tryz.func6, Tryz.ntmps6
  go_wp2_with fail
  go_ret
  exact ⟨_, _, rfl, hq.out, fun k hk => Nat.le_of_eq hk.symm, hb.out⟩
set_option maxHeartbeats 4000000 in
theorem theld_any (h : PT w F b t) : Calls Tryz.prog 13 #[.pointer (some ⟨b, 0, none⟩)] w fun e w' => ∃ u F', e = .returned u ∧ Zs w' u (srt t.nx (nums t.H)) ∧ PT w' F' b t ∧ Chg F w w' ∧ (∀ k, F k → F' k) ∧ ∀ k, F' k → F k ∨ w.heap.size ≤ k := by
  have HT := Lib.hid h.1
  have HL : Hid (t.H.length ≤ 16) := held_le h.1
  have C1 := Lib.hid (hold_pt h.drew)
  have c0 := h.2.cN
  clear h
  go_enter Tryz.func13, Tryz.ntmps13
  go_upto_region 3 with (fail)
  go_region_held (fun w' => w'.cell? ⟨b, 0, none⟩ = some (.int .i64 t.nx)) (first | exact o0 | go_keep) (first
    | (go_at_call 25; refine C1.out.mono ?_; rintro e w2 ⟨bm, F2, rfl, hp, hc, hF, hF2⟩; have o0 := hp.q.cN; have HP2 := Lib.hid hp; have HC2 := Lib.hid hc; have HF2 := Lib.hid hF; have HG2 := Lib.hid hF2; clear hp hc hF hF2)
    | (go_at_call 35; refine (pkeys_any bm _).mono ?_; rintro e w3 ⟨rfl, hw3⟩; have hb3 : Below w2.heap.size w2 w3 := hw3 ▸ (Below.refl _ w2).alloc (Nat.le_refl _) _; have HP3 := Lib.hid (HP2.out.below hb3); have HB3 := Lib.hid hb3; have HK3 : Hid (w3.cell? ⟨w2.heap.size, 0, none⟩ = some (.map (some bm))) := (by show _ = _; rw [hw3]; simp); have o0 := HP3.out.q.cN; clear hw3 hb3)
    | (go_at_call 34; obtain ⟨D, k1, k2, k3⟩ := HP3.out.keys HT.out.nd; have hm9 : Maps.size D ≤ 1000 := (by have := HL.out; omega); refine (pcollect_any bm _ _ D _ HK3.out k1 hm9).mono ?_; rintro e w4 ⟨v, ss, rfl, hS, hrow, hb⟩; have HS4 := Lib.hid (hS.trans k3.symm); have HZ4 := Lib.hid hrow; have HB4 := Lib.hid hb; have HP4 := Lib.hid (HP3.out.below hb); have o0 := HP4.out.q.cN; clear hS hrow hb k1 k2 k3 hm9)
    | (go_at_call 33; have hsl : ss.length ≤ 16 := (by have h1 := HS4.out.length_eq; have h2 := HL.out; unfold nums at h1; rw [List.length_map] at h1; omega); refine (sort_any v ss t.nx _ (Zs_of_own HZ4.out (by omega)) (by omega)).mono ?_; rintro e w5 ⟨u, rfl, hz, hb⟩; rw [perm_left HS4.out] at hz; have HZ5 := Lib.hid hz; have HB5 := Lib.hid hb; have HP5 := Lib.hid (HP4.out.below hb); have o0 := HP5.out.q.cN; clear hz hb hsl))
  go_wp2_with fail
  go_ret
  have hb25 : Below w2.heap.size w2 w5 := (HB3.out.trans (HB4.out.mono HB3.out.size)).trans (HB5.out.mono (Nat.le_trans HB3.out.size HB4.out.size))
  exact ⟨u, F2, rfl, HZ5.out, ⟨HT.out, .inl ⟨bm, HP5.out⟩⟩, (((Chg.refl F w).drew).trans HC2.out (fun _ _ h => h)).trans (G := fun _ => False) (chg0 hb25) (fun _ _ e => e.elim), HF2.out, HG2.out⟩
end
end Go.Proofs.YtfiaghfaijlfjaaGreat

namespace Go.Proofs.YtfiaghfaijlfjaaGreat
set_option maxRecDepth 100000
set_option linter.unusedVariables false
open Go.RowKit

open Go.Maps
theorem owna_chg {w w' : World} {G : Nat → Prop} {b : Nat} {y : Int × Int × Int × Int} (h : OwnA w b y) (hc : Chg G w w') (hb : ¬ G b) : OwnA w' b y := by
  obtain ⟨⟨h0, h1, h2, h3⟩, hf⟩ := h
  have hl := World.block_lt_of_cell? w _ h0
  exact ⟨⟨(hc.cell hl hb).trans h0, (hc.cell hl hb).trans h1, (hc.cell hl hb).trans h2, (hc.cell hl hb).trans h3⟩, fun j => (hc.frozen hl hb).trans (hf j)⟩
theorem chg_put4 (w : World) (g : Nat) (i p x m : Int) : Chg (fun k => k = g) w (put4 w g i p x m) :=
  (((chg_pt w g 0 _).trans (chg_pt _ g 1 _) (fun _ _ h => h)).trans (chg_pt _ g 2 _) (fun _ _ h => h)).trans (chg_pt _ g 3 _) (fun _ _ h => h)
section
variable {w : World} {F : Nat → Prop} {b : Nat} {t : Tk}
set_option maxHeartbeats 4000000 in
theorem tack_any (h : PT w F b t) : Calls Tryz.prog 10 #[.pointer (some ⟨b, 0, none⟩)] w fun e w' => ∃ F', e = .returned (.agg #[.int .i64 0, .int .i64 0, .int .i64 t.nx, .int .i64 (mk t.nx (srt t.nx (nums t.H)) 16)]) ∧ PT w' F' b t ∧ Chg F w w' ∧ (∀ k, F k → F' k) ∧ ∀ k, F' k → F k ∨ w.heap.size ≤ k := by
  have HT := Lib.hid h.1
  have HSL : Hid ((srt t.nx (nums t.H)).length ≤ 1000) := by
    have h1 := srt_len t.nx (nums t.H)
    have h2 := held_le h.1
    unfold nums at *
    rw [List.length_map] at h1
    show _ ≤ _
    omega
  obtain ⟨W1, hW1⟩ : ∃ W1, w.alloc (.cells #[.int .i64 0, .int .i64 0, .int .i64 0, .int .i64 0] 37) = W1 := ⟨_, rfl⟩
  have hb1 : Below w.heap.size w W1 := hW1 ▸ (Below.refl _ w).alloc (Nat.le_refl _) _
  have HR1 : Hid (OwnA W1 w.heap.size (0, 0, 0, 0)) := hW1 ▸ owna_alloc w 0 0 0 0 37 w.heap.size rfl
  have HP1 := Lib.hid (h.below hb1)
  have HB1 := Lib.hid hb1
  have HP0 := Lib.hid h
  have c0 := HP1.out.2.cN
  have hn1 : W1.heap.size ≠ b := by have := HP1.out.2.lt b HP1.out.2.fb; omega
  obtain ⟨g0, hg0⟩ : ∃ g0, w.heap.size = g0 := ⟨_, rfl⟩
  rw [hg0] at HR1
  have HG0 := Lib.hid hg0
  have HW1 := Lib.hid hW1
  have HNF : Hid (¬ F g0) := fun hk => by have := h.2.lt _ hk; omega
  obtain ⟨M, hM⟩ : ∃ M, mk t.nx (srt t.nx (nums t.H)) 16 = M := ⟨_, rfl⟩
  rw [hM]
  have HMM := Lib.hid hM
  clear h hb1 hg0 hW1 hM
  go_enter Tryz.func10, Tryz.ntmps10
  go_upto_region 3 with (fail)
  rw [HW1.out]
  try simp only [HG0.out]
  go_region_held (fun w' => w'.cell? ⟨b, 0, none⟩ = some (.int .i64 t.nx)) (first | exact o0 | go_keep) (first
    | (go_at_call 13; refine (theld_any (w := _) (F := F) (b := b) (t := t) (by first | exact HP1.out.drew | exact HP1.out.drew.below ((Below.refl _ _).alloc (Nat.le_refl _) _))).mono ?_; rintro e w2 ⟨u, F2, rfl, hz, hp, hc, hF, hF2⟩; have o0 := hp.2.cN; have HZ2 := Lib.hid hz; have HP2 := Lib.hid hp; have HC2 := Lib.hid hc; have hn2 : w2.heap.size ≠ b := (by have := hp.2.lt b hp.2.fb; omega); have HF2 := Lib.hid hF; have HG2 := Lib.hid hF2; (first | (have HC1 : Hid (Chg F W1 w2) := ((Chg.refl F W1).drew).trans hc (fun _ _ h => h)) | (have HC1 : Hid (Chg F W1 w2) := (((Chg.refl F W1).drew).alloc _).trans hc (fun _ _ h => h))); have HR2 := Lib.hid (owna_chg HR1.out HC1.out HNF.out); have HGG : Hid (∀ k, F2 k → F k ∨ W1.heap.size ≤ k) := (fun k hk => (hF2 k hk).imp (fun h => h) (fun h => Nat.le_trans (by simp) h)); (first | (have HN2 : Hid (¬ F2 W1.heap.size) := (fun hk => (hF2 _ hk).elim (fun h => by have := HP1.out.2.lt _ h; omega) (fun h => by simp at h; omega))) | skip); (first | (have HA2 := Lib.hid (owna_chg (owna_alloc W1.drew 0 0 0 0 37 W1.heap.size rfl) hc (fun hf => Nat.lt_irrefl _ (HP1.out.2.lt _ hf)))) | skip); clear hz hp hc hF hF2)
    | (go_at_call 31; refine (akof_ok t.nx u (srt t.nx (nums t.H)) _ HT.out.nx (by first | exact HZ2.out | exact Zs_below HZ2.out ((Below.refl _ _).alloc (Nat.le_refl _) _)) HSL.out).mono ?_; rintro e w5 ⟨he, hb⟩; rw [HMM.out] at he; subst he; (first | (have HB5 : Hid (Below w2.heap.size w2 w5) := hb) | (have HB5 : Hid (Below w2.heap.size w2 w5) := ((Below.refl _ w2).alloc (Nat.le_refl _) _).trans (hb.mono (by simp)))); (first | (have HA5 := Lib.hid (HA2.out.below HB5.out)) | (have HA5 := Lib.hid ((owna_alloc w2 0 0 0 0 37 w2.heap.size rfl).below hb)) | skip); have HP5 := Lib.hid (HP2.out.below HB5.out); have HR5 := Lib.hid (HR2.out.below HB5.out); have o0 := HP5.out.2.cN; have hn5 : w5.heap.size ≠ b := (by have := HP5.out.2.lt b HP5.out.2.fb; omega); (first | (obtain ⟨⟨z0, z1, z2, z3⟩, zf⟩ := HA5.out) | skip); clear hb))
  · have hV := owna_alloc w5 0 0 t.nx M 37 w5.heap.size rfl
    have hb5 : Below w5.heap.size w5 (w5.alloc (.cells #[.int .i64 0, .int .i64 0, .int .i64 t.nx, .int .i64 M] 37)) := (Below.refl _ w5).alloc (Nat.le_refl _) _
    have hp := HP5.out.below hb5
    have hr := HR5.out.below hb5
    have hcv : Chg F W1 (w5.alloc (.cells #[.int .i64 0, .int .i64 0, .int .i64 t.nx, .int .i64 M] 37)) := (HC1.out.trans (G := fun _ => False) (chg0 HB5.out) (fun _ _ e => e.elim)).trans (G := fun _ => False) (chg0 hb5) (fun _ _ e => e.elim)
    clear hb5
    clear HB5 HP5 HR5 HC1
    generalize (w5.alloc (.cells #[.int .i64 0, .int .i64 0, .int .i64 t.nx, .int .i64 M] 37)) = V5 at *
    obtain ⟨⟨y0, y1, y2, y3⟩, yf⟩ := hV
    obtain ⟨⟨r0, r1, r2, r3⟩, rf⟩ := hr
    have HS := Lib.hid (OwnA.set (w := V5) (b := g0) (y := (0, 0, 0, 0)) ⟨⟨r0, r1, r2, r3⟩, rf⟩ 0 0 t.nx M)
    have hlt : g0 < W1.heap.size := HR1.out.lt
    have HPF : Hid (PT (put4 V5 g0 0 0 t.nx M) F2 b t) := hp.keep (chg_put4 V5 g0 0 0 t.nx M) (fun k hk e => (HGG.out k hk).elim (fun h => HNF.out (by rw [← show k = g0 from e]; exact h)) (fun h => by have e' : k = g0 := e; omega))
    have HCF : Hid (Chg F w (put4 V5 g0 0 0 t.nx M)) := ((chg0 HB1.out).trans hcv (fun _ _ h => h)).trans (chg_put4 V5 g0 0 0 t.nx M) (fun x hx e => by have e' : x = g0 := e; have := HG0.out; omega)
    have HGF : Hid (∀ k, F2 k → F k ∨ w.heap.size ≤ k) := fun k hk => (HGG.out k hk).imp (fun h => h) (fun h => by have := HB1.out.size; omega)
    clear hp hcv hlt
    go_wp2_with fail
    obtain ⟨s0_, s1_, s2_, s3_⟩ := HS.out.1
    have HPF' := HPF.out
    have HCF' := HCF.out
    simp only [put4] at s0_ s1_ s2_ s3_ HPF' HCF'
    generalize (((V5.setCell ⟨g0, 0, none⟩ (.int .i64 0)).setCell ⟨g0, 1, none⟩ (.int .i64 0)).setCell ⟨g0, 2, none⟩ (.int .i64 t.nx)).setCell ⟨g0, 3, none⟩ (.int .i64 M) = W5 at *
    exact bodyPost_ret (v := .agg #[.int .i64 0, .int .i64 0, .int .i64 t.nx, .int .i64 M]) (by simp [results, Tryz.results10, go_sem, s0_, s1_, s2_, s3_]) rfl ⟨rfl, F2, HPF', HCF', HF2.out, HGF.out⟩
  · have hV := HA5.out.set 0 0 t.nx M
    have hp := HP5.out.keep (chg_put4 w5 w2.heap.size 0 0 t.nx M) (fun k hk e => (fun hk => Nat.lt_irrefl _ (HP2.out.2.lt _ hk)) (by rw [← show k = w2.heap.size from e]; exact hk))
    have hr := owna_chg HR5.out (chg_put4 w5 w2.heap.size 0 0 t.nx M) (fun e => by have e' : g0 = w2.heap.size := e; have := HR1.out.lt; have := HC1.out.size; omega)
    have hcv : Chg F W1 (put4 w5 w2.heap.size 0 0 t.nx M) := (HC1.out.trans (G := fun _ => False) (chg0 HB5.out) (fun _ _ e => e.elim)).trans (chg_put4 w5 w2.heap.size 0 0 t.nx M) (fun x hx e => by have e' : x = w2.heap.size := e; have := HC1.out.size; omega)
    simp only [put4] at hV hp hr hcv
    clear HA5 HB5 HP5 HR5 HC1
    generalize ((((w5.setCell ⟨w2.heap.size, 0, none⟩ (.int .i64 0)).setCell ⟨w2.heap.size, 1, none⟩ (.int .i64 0)).setCell ⟨w2.heap.size, 2, none⟩ (.int .i64 t.nx)).setCell ⟨w2.heap.size, 3, none⟩ (.int .i64 M)) = V5 at *
    obtain ⟨⟨y0, y1, y2, y3⟩, yf⟩ := hV
    obtain ⟨⟨r0, r1, r2, r3⟩, rf⟩ := hr
    have HS := Lib.hid (OwnA.set (w := V5) (b := g0) (y := (0, 0, 0, 0)) ⟨⟨r0, r1, r2, r3⟩, rf⟩ 0 0 t.nx M)
    have hlt : g0 < W1.heap.size := HR1.out.lt
    have HPF : Hid (PT (put4 V5 g0 0 0 t.nx M) F2 b t) := hp.keep (chg_put4 V5 g0 0 0 t.nx M) (fun k hk e => (HGG.out k hk).elim (fun h => HNF.out (by rw [← show k = g0 from e]; exact h)) (fun h => by have e' : k = g0 := e; omega))
    have HCF : Hid (Chg F w (put4 V5 g0 0 0 t.nx M)) := ((chg0 HB1.out).trans hcv (fun _ _ h => h)).trans (chg_put4 V5 g0 0 0 t.nx M) (fun x hx e => by have e' : x = g0 := e; have := HG0.out; omega)
    have HGF : Hid (∀ k, F2 k → F k ∨ w.heap.size ≤ k) := fun k hk => (HGG.out k hk).imp (fun h => h) (fun h => by have := HB1.out.size; omega)
    clear hp hcv hlt
    go_wp2_with fail
    obtain ⟨s0_, s1_, s2_, s3_⟩ := HS.out.1
    have HPF' := HPF.out
    have HCF' := HCF.out
    simp only [put4] at s0_ s1_ s2_ s3_ HPF' HCF'
    generalize (((V5.setCell ⟨g0, 0, none⟩ (.int .i64 0)).setCell ⟨g0, 1, none⟩ (.int .i64 0)).setCell ⟨g0, 2, none⟩ (.int .i64 t.nx)).setCell ⟨g0, 3, none⟩ (.int .i64 M) = W5 at *
    exact bodyPost_ret (v := .agg #[.int .i64 0, .int .i64 0, .int .i64 t.nx, .int .i64 M]) (by simp [results, Tryz.results10, go_sem, s0_, s1_, s2_, s3_]) rfl ⟨rfl, F2, HPF', HCF', HF2.out, HGF.out⟩
  · have hV := HA5.out.set 0 0 t.nx M
    have hp := HP5.out.keep (chg_put4 w5 W1.heap.size 0 0 t.nx M) (fun k hk e => HN2.out (by rw [← show k = W1.heap.size from e]; exact hk))
    have hr := owna_chg HR5.out (chg_put4 w5 W1.heap.size 0 0 t.nx M) (fun e => by have e' : g0 = W1.heap.size := e; have := HR1.out.lt; have := HC1.out.size; omega)
    have hcv : Chg F W1 (put4 w5 W1.heap.size 0 0 t.nx M) := (HC1.out.trans (G := fun _ => False) (chg0 HB5.out) (fun _ _ e => e.elim)).trans (chg_put4 w5 W1.heap.size 0 0 t.nx M) (fun x hx e => by have e' : x = W1.heap.size := e; have := HC1.out.size; omega)
    simp only [put4] at hV hp hr hcv
    clear HA5 HB5 HP5 HR5 HC1
    generalize ((((w5.setCell ⟨W1.heap.size, 0, none⟩ (.int .i64 0)).setCell ⟨W1.heap.size, 1, none⟩ (.int .i64 0)).setCell ⟨W1.heap.size, 2, none⟩ (.int .i64 t.nx)).setCell ⟨W1.heap.size, 3, none⟩ (.int .i64 M)) = V5 at *
    obtain ⟨⟨y0, y1, y2, y3⟩, yf⟩ := hV
    obtain ⟨⟨r0, r1, r2, r3⟩, rf⟩ := hr
    have HS := Lib.hid (OwnA.set (w := V5) (b := g0) (y := (0, 0, 0, 0)) ⟨⟨r0, r1, r2, r3⟩, rf⟩ 0 0 t.nx M)
    have hlt : g0 < W1.heap.size := HR1.out.lt
    have HPF : Hid (PT (put4 V5 g0 0 0 t.nx M) F2 b t) := hp.keep (chg_put4 V5 g0 0 0 t.nx M) (fun k hk e => (HGG.out k hk).elim (fun h => HNF.out (by rw [← show k = g0 from e]; exact h)) (fun h => by have e' : k = g0 := e; omega))
    have HCF : Hid (Chg F w (put4 V5 g0 0 0 t.nx M)) := ((chg0 HB1.out).trans hcv (fun _ _ h => h)).trans (chg_put4 V5 g0 0 0 t.nx M) (fun x hx e => by have e' : x = g0 := e; have := HG0.out; omega)
    have HGF : Hid (∀ k, F2 k → F k ∨ w.heap.size ≤ k) := fun k hk => (HGG.out k hk).imp (fun h => h) (fun h => by have := HB1.out.size; omega)
    clear hp hcv hlt
    go_wp2_with fail
    obtain ⟨s0_, s1_, s2_, s3_⟩ := HS.out.1
    have HPF' := HPF.out
    have HCF' := HCF.out
    simp only [put4] at s0_ s1_ s2_ s3_ HPF' HCF'
    generalize (((V5.setCell ⟨g0, 0, none⟩ (.int .i64 0)).setCell ⟨g0, 1, none⟩ (.int .i64 0)).setCell ⟨g0, 2, none⟩ (.int .i64 t.nx)).setCell ⟨g0, 3, none⟩ (.int .i64 M) = W5 at *
    exact bodyPost_ret (v := .agg #[.int .i64 0, .int .i64 0, .int .i64 t.nx, .int .i64 M]) (by simp [results, Tryz.results10, go_sem, s0_, s1_, s2_, s3_]) rfl ⟨rfl, F2, HPF', HCF', HF2.out, HGF.out⟩
end
end Go.Proofs.YtfiaghfaijlfjaaGreat
