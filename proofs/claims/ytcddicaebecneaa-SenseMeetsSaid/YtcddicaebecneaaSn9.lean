/- Mathematics of sensors: events go Up, Down, Up. No walks. -/
import Derived.Test.YtcddicaebecneaaSn8
namespace Go.Proofs.Ytcddicaebecneaa
set_option maxRecDepth 100000

/-- Which links are up: their epochs, else -1. -/
def upH (h : Hd) : Int := if h.2.2.2 = true then h.2.1 else -1
def upOf (L : List Hd) : List Int := L.map upH
/-- An event comes. -/
def apE (id : Int) (u : List Int) (e : Ev) : Option (List Int) :=
  if e.2.1 < 0 ∨ 64 ≤ e.2.1 ∨ e.2.1 = id then none
  else if e.1 = 1 ∧ u.getD e.2.1.toNat 0 < 0 then some (u.set e.2.1.toNat e.2.2)
  else if e.1 = 2 ∧ u.getD e.2.1.toNat 0 = e.2.2 then some (u.set e.2.1.toNat (-1)) else none
def apAll (id : Int) (u : List Int) (es : List Ev) : Option (List Int) := es.foldl (fun o e => o.bind fun u => apE id u e) (some u)
theorem apAll_app (id : Int) (u : List Int) (es fs : List Ev) : apAll id u (es ++ fs) = (apAll id u es).bind fun u => apAll id u fs := by
  unfold apAll
  rw [List.foldl_append]
  cases h : es.foldl (fun o e => o.bind fun u => apE id u e) (some u) with
  | some u' => rfl
  | none =>
    show fs.foldl (fun o e => o.bind fun u => apE id u e) none = none
    induction fs with
    | nil => rfl
    | cons f r ih => exact ih
theorem up_get {L : List Hd} {i : Nat} (h : i < L.length) : (upOf L).getD i 0 = upH (L.getD i zHd) := by simp [upOf, List.getD, h]
theorem up_set (L : List Hd) (i : Nat) (z : Hd) : upOf (L.set i z) = (upOf L).set i (upH z) := by simp [upOf, List.map_set]
theorem ap_down {id fr ep : Int} {L : List Hd} (hL : L.length = 64) (h0 : 0 ≤ fr) (h1 : fr < 64) (h2 : fr ≠ id) (ht : (L.getD fr.toNat zHd).2.2.2 = true) (he : (L.getD fr.toNat zHd).2.1 = ep) {z : Hd} (hz : z.2.2.2 = false) : apAll id (upOf L) [(2, fr, ep)] = some (upOf (L.set fr.toNat z)) := by
  show apE id (upOf L) (2, fr, ep) = _
  unfold apE
  rw [if_neg (by simp only [not_or]; exact ⟨by omega, by omega, h2⟩), if_neg (fun h => absurd (show (2 : Int) = 1 from h.1) (by decide)), up_get (by show fr.toNat < _; omega), if_pos ⟨rfl, by unfold upH; rw [if_pos ht]; exact he⟩, up_set]
  unfold upH
  rw [if_neg (by rw [hz]; decide)]
theorem ap_up {id fr ep : Int} {L : List Hd} (hL : L.length = 64) (h0 : 0 ≤ fr) (h1 : fr < 64) (h2 : fr ≠ id) (ht : (L.getD fr.toNat zHd).2.2.2 = false) {z : Hd} (hz : z.2.2.2 = true) (he : z.2.1 = ep) : apAll id (upOf L) [(1, fr, ep)] = some (upOf (L.set fr.toNat z)) := by
  show apE id (upOf L) (1, fr, ep) = _
  unfold apE
  rw [if_neg (by simp only [not_or]; exact ⟨by omega, by omega, h2⟩), up_get (by show fr.toNat < _; omega), if_pos ⟨rfl, by unfold upH; rw [if_neg (by rw [ht]; decide)]; show (-1 : Int) < 0; decide⟩, up_set]
  unfold upH
  rw [if_pos hz, he]
theorem up_same {L : List Hd} {i : Nat} (hi : i < L.length) {z : Hd} (h : upH z = upH (L.getD i zHd)) : upOf (L.set i z) = upOf L := by
  rw [up_set, h]
  refine List.ext_getElem (by simp) fun j h1 h2 => ?_
  by_cases e : i = j
  · subst e
    simp [upOf, List.getD, hi]
  · simp [e]
theorem turns_hear {s : Sn} (h : SnOk s) (now fr M : Int) (ys : List (Int × Int)) : apAll s.id (upOf s.L) (hearR s now fr M ys).1 = some (upOf (hearR s now fr M ys).2.2.L) := by
  rcases hearR_cases s now fr M ys with e | e | ⟨ho, hold, e⟩
  · rw [e]; rfl
  · rw [e]; rfl
  · rw [e]
    obtain ⟨_, o2, o3, o4, _⟩ := ho
    have hi : fr.toNat < s.L.length := by rw [h.len]; omega
    show apAll s.id (upOf s.L) (out1 (hdAt s fr) fr M ++ out2 fr M (seesB s ys) (th1 (hdAt s fr) M)) = some (upOf (s.L.set fr.toNat (true, M, now, seesB s ys)))
    obtain ⟨y, hy⟩ : ∃ y, s.L.getD fr.toNat zHd = y := ⟨_, rfl⟩
    have hyd : hdAt s fr = y := hy
    obtain ⟨hz1, hz2⟩ := h.at_ fr.toNat (by rw [← h.len]; exact hi)
    rw [hy] at hz1 hz2
    rw [hyd] at hold ⊢
    generalize seesB s ys = sees
    rw [apAll_app]
    by_cases hd : dn1 y M = true
    · have h3 : y.2.2.2 = true := by unfold dn1 at hd; rw [Bool.and_eq_true, Bool.and_eq_true] at hd; exact hd.2.2
      have e1 : out1 y fr M = [(2, fr, y.2.1)] := by unfold out1; rw [if_pos hd]
      have e2 : th1 y M = false := by unfold th1; rw [if_pos hd]
      rw [e1, e2, ap_down h.len o2 o3 o4 (by rw [hy]; exact h3) (by rw [hy]) (z := zHd) rfl]
      show apAll s.id (upOf (s.L.set fr.toNat zHd)) (out2 fr M sees false) = _
      have hl2 : (s.L.set fr.toNat zHd).length = 64 := by rw [List.length_set]; exact h.len
      have hg2 : (s.L.set fr.toNat zHd).getD fr.toNat zHd = zHd := by simp [List.getD, hi]
      cases sees with
      | true =>
        show apAll s.id _ [(1, fr, M)] = _
        rw [ap_up hl2 o2 o3 o4 (by rw [hg2]; rfl) (z := (true, M, now, true)) rfl rfl, List.set_set]
      | false =>
        show some (upOf (s.L.set fr.toNat zHd)) = _
        rw [up_set, up_set]
        rfl
    · have e1 : out1 y fr M = [] := by unfold out1; rw [if_neg hd]
      have e2 : th1 y M = y.2.2.2 := by unfold th1; rw [if_neg hd]
      rw [e1, e2]
      show apAll s.id (upOf s.L) (out2 fr M sees y.2.2.2) = _
      have hM : y.2.2.2 = true → y.2.1 = M := fun ht => by
        have h1 : y.1 = true := by
          cases hq : y.1 with
          | true => rfl
          | false => rw [hz1 hq] at ht; cases ht
        unfold old1 at hold
        unfold dn1 at hd
        rw [h1, Bool.true_and] at hold
        rw [h1, ht, Bool.true_and, Bool.and_true] at hd
        have := of_decide_eq_false hold
        have h9 : ¬ y.2.1 < M := fun hl => hd (decide_eq_true hl)
        omega
      cases ht : y.2.2.2 with
      | true =>
        cases sees with
        | true =>
          show some (upOf s.L) = _
          rw [up_same hi (by rw [hy]; unfold upH; rw [if_pos rfl, if_pos ht, hM ht])]
        | false =>
          show apAll s.id (upOf s.L) [(2, fr, M)] = _
          rw [ap_down h.len o2 o3 o4 (by rw [hy]; exact ht) (by rw [hy]; exact hM ht) (z := (true, M, now, false)) rfl]
      | false =>
        cases sees with
        | true =>
          show apAll s.id (upOf s.L) [(1, fr, M)] = _
          rw [ap_up h.len o2 o3 o4 (by rw [hy]; exact ht) (z := (true, M, now, true)) rfl rfl]
        | false =>
          show some (upOf s.L) = _
          rw [up_same hi (by rw [hy]; unfold upH; rw [if_neg (fun h => absurd (show false = true from h) (by decide)), if_neg (by rw [ht]; decide)])]
theorem turns_tick {s : Sn} (h : SnOk s) (now : Int) : apAll s.id (upOf s.L) (tickO s now) = some (upOf (tickS s now).L) := by
  unfold tickO tickS
  cases ht : tmB s now with
  | false => rfl
  | true =>
    show apAll s.id (upOf s.L) (tkO now s.hold s.L 64) = some (upOf (tkL now s.hold s.L 64))
    have key : ∀ k, k ≤ 64 → apAll s.id (upOf s.L) (tkO now s.hold s.L k) = some (upOf (tkL now s.hold s.L k)) := by
      intro k
      induction k with
      | zero => intro _; show some (upOf s.L) = some (upOf (tkL now s.hold s.L 0)); unfold tkL; rfl
      | succ k ih =>
        intro hk
        show apAll s.id (upOf s.L) (tkO now s.hold s.L k ++ (if gon now s.hold (s.L.getD k zHd) = true ∧ (s.L.getD k zHd).2.2.2 = true then [(2, (k : Int), (s.L.getD k zHd).2.1)] else [])) = _
        rw [apAll_app, ih (by omega)]
        obtain ⟨m1, m2, m3⟩ := tkL_at now s.hold s.L k (by rw [h.len]; omega)
        have hlen : (tkL now s.hold s.L k).length = 64 := by
          unfold tkL
          rw [List.length_append, List.length_map, List.length_take, List.length_drop, h.len]
          omega
        show apAll s.id (upOf (tkL now s.hold s.L k)) _ = _
        cases hg : gon now s.hold (s.L.getD k zHd) with
        | false => rw [if_neg (fun h => by cases h.1), m2 hg]; rfl
        | true =>
          rw [m3 hg]
          cases h3 : (s.L.getD k zHd).2.2.2 with
          | true =>
            rw [if_pos ⟨rfl, rfl⟩]
            have hne : (k : Int) ≠ s.id := fun e => by
              have := h.self
              rw [show s.id.toNat = k by omega] at this
              rw [this] at h3
              cases h3
            have := ap_down (id := s.id) (fr := (k : Int)) (ep := (s.L.getD k zHd).2.1) (L := tkL now s.hold s.L k) hlen (by omega) (by omega) hne (by rw [Int.toNat_natCast, m1]; exact h3) (by rw [Int.toNat_natCast, m1]) (z := zHd) rfl
            rw [Int.toNat_natCast] at this
            exact this
          | false =>
            rw [if_neg (fun h => by cases h.2)]
            show some (upOf (tkL now s.hold s.L k)) = _
            rw [up_same (by omega) (by rw [m1]; unfold upH; rw [h3]; rfl)]
    exact key 64 (Nat.le_refl _)
end Go.Proofs.Ytcddicaebecneaa
