/- What each function answers of a beacon, in one form; the document's example. No conditions but on lengths. -/
import Derived.Test.YtaflgabjpcfgpaaWit
import Derived.Test.YtaflgabjpcfgpaaWot
import Derived.Test.YtaflgabjpcfgpaaByp
import Derived.Test.YtaflgabjpcfgpaaBps
import Derived.Test.YtaflgabjpcfgpaaBeo
import Derived.Test.YtaflgabjpcfgpaaAwake
namespace Go.Proofs.Ytaflgabjpcfgpaa
set_option maxRecDepth 100000
open Go.RowKit

/-! ### With -/
def WiOk (M : Int) (ys : List (Int × Int)) (id ep : Int) : Prop := BeOk M ys ∧ BeOk M (winF ys id ep)
instance (M : Int) (ys : List (Int × Int)) (id ep : Int) : Decidable (WiOk M ys id ep) := by unfold WiOk; infer_instance
def wK (M : Int) (ys : List (Int × Int)) (id ep : Int) : Int := if WiOk M ys id ep then 0 else 1
def wM (M : Int) (ys : List (Int × Int)) (id ep : Int) : Int := if WiOk M ys id ep then M else 0
def wL (M : Int) (ys : List (Int × Int)) (id ep : Int) : List (Int × Int) := if WiOk M ys id ep then winF ys id ep else []
/-- A beacon of the call's own, and an error. -/
def RetE (w : World) (M : Int) (L : List (Int × Int)) (K : Int) (e : Ending) (w' : World) : Prop :=
  ∃ a c, e = .returned (.tuple #[.agg #[.int .i64 M, .slice a L.length c], .int .i64 K]) ∧ OwE w' w.heap.size (.slice a L.length c) L ∧ Below w.heap.size w w'
theorem wi_form {w w' : World} {e : Ending} {M : Int} {ys : List (Int × Int)} {id ep : Int}
    (h : (∃ u k, e = .returned (.tuple #[u, .int .i64 k]) ∧
      ((¬ (BeOk M ys ∧ BeOk M (winF ys id ep)) ∧ u = .agg #[.int .i64 0, .slice none 0 0] ∧ k = 1) ∨
       (BeOk M ys ∧ BeOk M (winF ys id ep) ∧ k = 0 ∧ ∃ u', u = .agg #[.int .i64 M, u'] ∧ OwE w' w.heap.size u' (winF ys id ep)))) ∧ Below w.heap.size w w') : RetE w (wM M ys id ep) (wL M ys id ep) (wK M ys id ep) e w' := by
  obtain ⟨⟨u, k, rfl, h | h⟩, hb⟩ := h
  · obtain ⟨hn, rfl, rfl⟩ := h
    unfold wM wL wK
    have hn' : ¬ WiOk M ys id ep := hn
    rw [if_neg hn', if_neg hn', if_neg hn']
    exact ⟨none, 0, rfl, eown_nil _ _, hb⟩
  · obtain ⟨h1, h2, rfl, u', rfl, ho⟩ := h
    have hp : WiOk M ys id ep := ⟨h1, h2⟩
    unfold wM wL wK
    rw [if_pos hp, if_pos hp, if_pos hp]
    obtain ⟨a, c, rfl⟩ := ho.form
    exact ⟨a, c, rfl, ho, hb⟩
theorem with_fix (M : Int) (v : Value) (ys : List (Int × Int)) (id ep : Int) (w : World) (hE : El w v ys) (hl : ys.length ≤ 1000) :
    Calls Try.prog 13 #[.agg #[.int .i64 M, v], .int .i64 id, .int .i64 ep] w (RetE w (wM M ys id ep) (wL M ys id ep) (wK M ys id ep)) := (with_any M v ys id ep w hE hl).mono fun _ _ h => wi_form h
theorem rwith_fix (M : Int) (v : Value) (ys : List (Int × Int)) (id ep : Int) (w : World) (hE : Es w v ys) (hl : ys.length ≤ 1000) :
    Calls Try.prog 14 #[.agg #[.int .i64 M, v], .int .i64 id, .int .i64 ep] w (RetE w (wM M ys id ep) (wL M ys id ep) (wK M ys id ep)) := (rwith_any M v ys id ep w hE (by omega)).mono fun _ _ h => wi_form h
theorem wL_len (M : Int) (ys : List (Int × Int)) (id ep : Int) : (wL M ys id ep).length ≤ ys.length + 1 := by
  unfold wL winF
  split
  · rename_i h
    have h1 := wk_len ys id ep ys.length
    split
    · rename_i h2; rw [if_pos h2] at h1; simp; omega
    · rename_i h2; rw [if_neg h2] at h1; simp; omega
  · simp
/-! ### Without -/
def oK (M : Int) (ys : List (Int × Int)) (id : Int) : Int := if BeOk M ys then (if hear ys id = none then 7 else 0) else 1
def oM (M : Int) (ys : List (Int × Int)) (id : Int) : Int := if BeOk M ys then (if hear ys id = none then 0 else M) else 0
def oL (M : Int) (ys : List (Int × Int)) (id : Int) : List (Int × Int) := if BeOk M ys then (if hear ys id = none then [] else wout ys id) else []
theorem wo_form {w w' : World} {e : Ending} {M : Int} {ys : List (Int × Int)} {id : Int}
    (h : (∃ u k, e = .returned (.tuple #[u, .int .i64 k]) ∧
      ((¬ BeOk M ys ∧ u = .agg #[.int .i64 0, .slice none 0 0] ∧ k = 1) ∨ (BeOk M ys ∧ hear ys id = none ∧ u = .agg #[.int .i64 0, .slice none 0 0] ∧ k = 7) ∨
       (BeOk M ys ∧ hear ys id ≠ none ∧ k = 0 ∧ ∃ u', u = .agg #[.int .i64 M, u'] ∧ OwE w' w.heap.size u' (wout ys id)))) ∧ Below w.heap.size w w') : RetE w (oM M ys id) (oL M ys id) (oK M ys id) e w' := by
  obtain ⟨⟨u, k, rfl, h | h | h⟩, hb⟩ := h
  · obtain ⟨hn, rfl, rfl⟩ := h
    unfold oM oL oK
    rw [if_neg hn, if_neg hn, if_neg hn]
    exact ⟨none, 0, rfl, eown_nil _ _, hb⟩
  · obtain ⟨h1, h2, rfl, rfl⟩ := h
    unfold oM oL oK
    rw [if_pos h1, if_pos h1, if_pos h1, if_pos h2, if_pos h2, if_pos h2]
    exact ⟨none, 0, rfl, eown_nil _ _, hb⟩
  · obtain ⟨h1, h2, rfl, u', rfl, ho⟩ := h
    unfold oM oL oK
    rw [if_pos h1, if_pos h1, if_pos h1, if_neg h2, if_neg h2, if_neg h2]
    obtain ⟨a, c, rfl⟩ := ho.form
    exact ⟨a, c, rfl, ho, hb⟩
theorem without_fix (M : Int) (v : Value) (ys : List (Int × Int)) (id : Int) (w : World) (hE : El w v ys) (hl : ys.length ≤ 1000) :
    Calls Try.prog 15 #[.agg #[.int .i64 M, v], .int .i64 id] w (RetE w (oM M ys id) (oL M ys id) (oK M ys id)) := (without_any M v ys id w hE hl).mono fun _ _ h => wo_form h
theorem rwithout_fix (M : Int) (v : Value) (ys : List (Int × Int)) (id : Int) (w : World) (hE : Es w v ys) (hl : ys.length ≤ 1000) :
    Calls Try.prog 16 #[.agg #[.int .i64 M, v], .int .i64 id] w (RetE w (oM M ys id) (oL M ys id) (oK M ys id)) := (rwout_any M v ys id w hE (by omega)).mono fun _ _ h => wo_form h
theorem oL_len (M : Int) (ys : List (Int × Int)) (id : Int) : (oL M ys id).length ≤ ys.length := by
  unfold oL wout
  split
  · split
    · simp
    · exact List.length_filter_le _ _
  · simp
/-! ### Bytes -/
def byL (M : Int) (ys : List (Int × Int)) : List Int := if BeOk M ys then beB M ys else []
def byK (M : Int) (ys : List (Int × Int)) : Int := if BeOk M ys then 0 else 1
def RetY (w : World) (L : List Int) (K : Int) (e : Ending) (w' : World) : Prop := ∃ a c, e = .returned (.tuple #[.slice a L.length c, .int .i64 K]) ∧ Bs w' (.slice a L.length c) L ∧ Below w.heap.size w w'
theorem beB_len (M : Int) (ys : List (Int × Int)) : (beB M ys).length = 5 + 5 * ys.length := by
  unfold beB
  simp only [List.length_append, lo_len, List.length_cons, List.length_nil, ecB_flat_len]
theorem beB_byt {M : Int} {ys : List (Int × Int)} (h : BeOk M ys) : ∀ x ∈ beB M ys, 0 ≤ x ∧ x < 256 := by
  intro x hx
  unfold beB at hx
  rw [List.mem_append, List.mem_append] at hx
  rcases hx with (hx | hx) | hx
  · exact lo_byt x hx
  · have := h.len
    rw [List.mem_singleton] at hx
    omega
  · obtain ⟨l, hl, hx⟩ := List.mem_flatten.1 hx
    obtain ⟨y, hy, rfl⟩ := List.mem_map.1 hl
    unfold ecB at hx
    rcases List.mem_cons.1 hx with rfl | hx
    · have := ((beok_iff.1 h).2.1 y hy).1
      omega
    · exact lo_byt x hx
theorem byL_len (M : Int) (ys : List (Int × Int)) : (byL M ys).length ≤ 325 := by
  unfold byL
  split
  · rename_i h
    have := h.len
    rw [beB_len]; omega
  · simp
theorem bytes_fix (M : Int) (v : Value) (ys : List (Int × Int)) (w : World) (hE : El w v ys) (hl : ys.length ≤ 1000) : Calls Try.prog 9 #[.agg #[.int .i64 M, v]] w (RetY w (byL M ys) (byK M ys)) := by
  unfold byL byK
  by_cases h : BeOk M ys
  · rw [if_pos h, if_pos h]
    refine (bytes9_ok M v ys w hE h).mono fun e w' ⟨⟨r, h1, h2⟩, h3⟩ => ?_
    obtain ⟨a, c, rfl⟩ := h2.form
    have := h.len
    exact ⟨a, c, h1, Bs_of_own h2 (beB_byt h) (by rw [beB_len]; omega), h3⟩
  · rw [if_neg h, if_neg h]
    exact (bytes9_no M v ys w hE (by omega) h).mono fun e w' ⟨h1, h2⟩ => ⟨none, 0, h1, Bs_nil _, h2⟩
theorem rbytes_fix (M : Int) (v : Value) (ys : List (Int × Int)) (w : World) (hE : Es w v ys) (hl : ys.length ≤ 1000) : Calls Try.prog 10 #[.agg #[.int .i64 M, v]] w (RetY w (byL M ys) (byK M ys)) := by
  unfold byL byK
  by_cases h : BeOk M ys
  · rw [if_pos h, if_pos h]
    refine (rbytes6_ok M v ys w hE h).mono fun e w' ⟨⟨r, h1, h2⟩, h3⟩ => ?_
    obtain ⟨a, c, rfl⟩ := OwB.form h2
    have := h.len
    exact ⟨a, c, h1, Bs_of_own h2 (beB_byt h) (by rw [beB_len]; omega), h3⟩
  · rw [if_neg h, if_neg h]
    exact (rbytes6_no M v ys w hE (by omega) h).mono fun e w' ⟨h1, h2⟩ => ⟨none, 0, h1, Bs_nil _, h2⟩
/-! ### Parse -/
theorem eparse_err {xs : List Int} {k : Int} (h : (eparseS xs k).e ≠ 0) : (eparseS xs k).M = 0 ∧ (eparseS xs k).ys = [] ∧ (eparseS xs k).to = 0 := by
  unfold eparseS eparseF at *
  split
  · rename_i h1
    rw [if_pos h1] at h
    split
    · rename_i h2; rw [if_pos h2] at h; exact absurd rfl h
    · exact ⟨rfl, rfl, rfl⟩
  · exact ⟨rfl, rfl, rfl⟩
theorem eparse_ok {xs : List Int} {k : Int} (h : (eparseS xs k).e = 0) : BeOk (eparseS xs k).M (eparseS xs k).ys := by
  unfold eparseS eparseF at *
  split
  · rename_i h1
    rw [if_pos h1] at h
    split
    · rename_i h2; exact h2
    · rename_i h2; rw [if_neg h2] at h; cases h
  · rename_i h1; rw [if_neg h1] at h; exact absurd h h1
theorem eparse_len (xs : List Int) (k : Int) : (eparseS xs k).ys.length ≤ 64 := by
  by_cases h : (eparseS xs k).e = 0
  · exact (eparse_ok h).len
  · rw [(eparse_err h).2.1]; simp
def RetP (w : World) (M : Int) (L : List (Int × Int)) (T K : Int) (e : Ending) (w' : World) : Prop :=
  ∃ a c, e = .returned (.tuple #[.agg #[.int .i64 M, .slice a L.length c], .int .i64 T, .int .i64 K]) ∧ OwE w' w.heap.size (.slice a L.length c) L ∧ Below w.heap.size w w'
theorem parse_fix (v : Value) (xs : List Int) (k : Int) (w : World) (hv : Bs w v xs) : Calls Try.prog 21 #[v, .int .i64 k] w (RetP w (eparseS xs k).M (eparseS xs k).ys (eparseS xs k).to (eparseS xs k).e) :=
  (eparse_any v k xs w hv).mono fun e w' ⟨r, h1, h2, h3⟩ => by
    obtain ⟨a, c, rfl⟩ := h2.form
    exact ⟨a, c, h1, h2, h3⟩
theorem rparse_fix (v : Value) (xs : List Int) (k : Int) (w : World) (hv : Bs w v xs) : Calls Try.prog 22 #[v, .int .i64 k] w (RetP w (eparseS xs k).M (eparseS xs k).ys (eparseS xs k).to (eparseS xs k).e) :=
  (rparse6_any v xs k w hv).mono fun e w' ⟨⟨u, t, k', h1, h2⟩, h3⟩ => by
    rw [bePF_eq] at h2
    by_cases he : (eparseS xs k).e = 0
    · rw [if_neg (by rw [he]; simp)] at h2
      obtain ⟨rfl, rfl, u', rfl, ho⟩ := h2
      obtain ⟨a, c, rfl⟩ := ho.form
      exact ⟨a, c, by rw [h1, he], ho, h3⟩
    · rw [if_pos he] at h2
      obtain ⟨rfl, rfl, rfl⟩ := h2
      obtain ⟨e1, e2, e3⟩ := eparse_err he
      rw [e1, e2, e3]
      exact ⟨none, 0, h1, eown_nil _ _, h3⟩
/-! ### Same, Own -/
theorem rsame_true (M : Int) (v u : Value) (ys : List (Int × Int)) (w : World) (hy : Es w v ys) (hz : Es w u ys) (hl : ys.length ≤ 3000) :
    Calls Try.prog 20 #[.agg #[.int .i64 M, v], .agg #[.int .i64 M, u]] w fun e w' => e = .returned (.bool true) ∧ Below w.heap.size w w' :=
  (rsame_any M M v u ys ys w hy hz hl).mono fun e w' ⟨⟨b, h1, h2⟩, h3⟩ => ⟨by rw [h1, h2.2 ⟨rfl, rfl⟩], h3⟩
theorem OwE.es {w : World} {S : Nat} {v : Value} {xs : List (Int × Int)} (h : OwE w S v xs) : Es w v xs := (Es_of_own h).1
/-! ### The document's example -/
theorem own_lit1e (w : World) (S : Nat) (y1 y2 : Int) (hS : S ≤ w.heap.size) (g : Nat) (hg : g = w.heap.size) : OwE (w.alloc (.cells #[.int .i64 y1, .int .i64 y2] 52)) S (.slice (some ⟨g, 0, none⟩) 1 1) [(y1, y2)] := by
  subst hg
  exact ⟨rfl, .inr ⟨w.heap.size, 1, _, rfl, hS, World.alloc_heap_new w _, Nat.le_refl _, by unfold maxLen; omega, rfl, rfl⟩⟩
theorem be52 : BeOk 1 [(5, 2)] := beok_iff.2 ⟨List.pairwise_singleton _ _, fun y hy => by rw [List.mem_singleton.1 hy]; exact ⟨⟨by decide, by decide⟩, ⟨by decide, by decide⟩⟩, ⟨by decide, by decide⟩⟩
theorem bytes52 : byL 1 [(5, 2)] = [0, 0, 0, 1, 1, 5, 0, 0, 0, 2] := by unfold byL; rw [if_pos be52]; decide
theorem err52 : byK 1 [(5, 2)] = 0 := by unfold byK; rw [if_pos be52]
set_option maxHeartbeats 4000000 in
theorem awake6 (w : World) : Calls Try.prog 19 #[] w fun e w' => e = .returned (.bool true) ∧ Below w.heap.size w w' := by
  have cA : ∀ w v, El w v [(5, 2)] → Calls Try.prog 9 #[.agg #[.int .i64 1, v]] w (RetY w [0, 0, 0, 1, 1, 5, 0, 0, 0, 2] 0) := fun w v h => by
    have hb := bytes_fix 1 v [(5, 2)] w h (by simp)
    rwa [bytes52, err52] at hb
  go_enter Try.func19, Try.ntmps19
  go_wp2_with fail
  refine (cA _ _ (own_lit1e w 0 5 2 (Nat.zero_le _) w.heap.size rfl).el).mono ?_
  rintro e w1 ⟨a, c, rfl, hr1, hb1⟩
  have hc1 : (convert 26 9 (.slice a [0, 0, 0, 1, 1, 5, 0, 0, 0, 2].length c)).run Try.prog w1 = .ok (.string { data := #[0, 0, 0, 1, 1, 5, 0, 0, 0, 2] }) w1 := Bs_conv hr1
  have H1 : Hid (Below w.heap.size w w1) := ((Below.refl _ w).alloc (Nat.le_refl _) _).trans (hb1.mono (by simp))
  clear hr1 hb1 cA
  simp only [List.length_cons, List.length_nil, Nat.reduceAdd] at hc1 ⊢
  go_wp2_with fail
  go_ret
  exact ⟨rfl, H1.out⟩
#print axioms awake6
#print axioms rparse_fix
end Go.Proofs.Ytaflgabjpcfgpaa
