/- Numbers put one behind the other by a variadic function over pairs; a string's bytes behind a row. No conditions but those stated. -/
import Derived.Test.YteleedpiadcfjaaPkb
import Derived.Test.YteleedpiadcfjaaPow
import Derived.Test.YteleedpiadcfjaaByt
import Derived.Lib.AppendStr
namespace Go.Proofs.Yteleedpiadcfjaa
set_option maxRecDepth 100000
open Go.RowKit

/-! ### A string's bytes behind a row of the call's own -/
theorem strCells_bl (x : ByteArray) : Lib.strCells x = (bl x).map (Value.int .u8) := by
  unfold Lib.strCells bl
  rw [List.map_map]; rfl
theorem appstr_any {ops : Array Oper} {rest : List Oper} {o : Oper} {a : Act} {Q : Exit → Act → World → Prop} {w : World} (hgd : o.guard = none) (s x : Operand)
    (ho : o.op = .call { callee := .builtin .append, args := #[s, x], argTypes := #[24, 9] }) (S : Nat) (xs : List Int) (hown : w.ownsRow S 5 1 (a.eval s) xs.length (xs.map (Value.int .u8))) (str : ByteArray) (hx : a.eval x = .string str) (hl : xs.length + str.size ≤ 100000) (hS : S ≤ w.heap.size)
    (h : ∀ v' w', w'.ownsRow S 5 1 v' (xs ++ bl str).length ((xs ++ bl str).map (Value.int .u8)) → Below S w w' → w.heap.size ≤ w'.heap.size → wpList Try.prog ops Q rest (a.put o.dst v') w') : wpList Try.prog ops Q (o :: rest) a w := by
  obtain ⟨i0, hi, hz0, hz1, hz2⟩ := info_parts Try.info5
  refine Lib.wpList_append_own_string w hgd s x 24 9 ho S 5 i0 Try.underlying24 Try.underlying9 hi hz0 hz1 hz2 _ _ _ rfl hown str hx (by unfold maxLen; omega) (by omega) hS fun v' w' h2 h3 _ => ?_
  refine h v' w' ?_ ((Below.refl _ w).grown h3 hS (fun k hk => (hown.lt k hk).1)) h3.size
  rw [List.length_append, bl_len, List.map_append, ← strCells_bl]
  exact h2

/-! ### Pairs -/
/-- A row of pairs lies there. -/
def Prs (w : World) (g : Nat) (ps : List (Int × Nat)) : Prop := ∀ i, i < ps.length → w.cell? ⟨g, i * 2, none⟩ = some (.int .i64 (ps.getD i (0, 0)).1) ∧ w.cell? ⟨g, i * 2 + 1, none⟩ = some (.int .i64 ((ps.getD i (0, 0)).2 : Int))
theorem Prs.below {w w' : World} {g : Nat} {ps : List (Int × Nat)} (h : Prs w g ps) (hg : g < w.heap.size) (hb : Below w.heap.size w w') : Prs w' g ps := fun i hi =>
  ⟨(hb.cell (p := ⟨g, i * 2, none⟩) hg).trans (h i hi).1, (hb.cell (p := ⟨g, i * 2 + 1, none⟩) hg).trans (h i hi).2⟩
/-- The bytes of pairs. -/
def prB (ps : List (Int × Nat)) : List Int := (ps.map fun p => lo p.1 p.2).flatten
def PrOk (p : Int × Nat) : Prop := (0 ≤ p.1 ∧ p.1 < pow256 p.2) ∧ 1 ≤ p.2 ∧ p.2 ≤ 7
theorem prB_step (ps : List (Int × Nat)) (k : Nat) (h : k < ps.length) : prB (ps.take (k + 1)) = prB (ps.take k) ++ lo (ps.getD k (0, 0)).1 (ps.getD k (0, 0)).2 := by
  unfold prB
  rw [List.take_succ_eq_append_getElem h, List.map_append, List.flatten_append]; simp [List.getD, h]
theorem prB_len (ps : List (Int × Nat)) (h : ∀ p ∈ ps, PrOk p) : (prB ps).length ≤ 7 * ps.length := by
  induction ps with
  | nil => simp [prB]
  | cons p ps ih =>
    have h1 := ih (fun q hq => h q (List.mem_cons_of_mem _ hq))
    have h2 := (h p (by simp)).2.2
    unfold prB at *
    simp only [List.map_cons, List.flatten_cons, List.length_append, lo_len, List.length_cons]
    omega
theorem lo_byt8 {v : Int} {n : Nat} : ∀ x ∈ lo v n, 0 ≤ x ∧ x < 256 := fun x hx => by
  obtain ⟨i, _, rfl⟩ := List.mem_map.1 hx
  omega
set_option maxHeartbeats 8000000 in
theorem prow_any (g : Nat) (ps : List (Int × Nat)) (w : World) (hp : Prs w g ps) (hg : g < w.heap.size) (hok : ∀ p ∈ ps, PrOk p) (hl : ps.length ≤ 20) :
    Calls Try.prog 18 #[.slice (some ⟨g, 0, none⟩) ps.length ps.length] w fun e w' => ∃ r, e = .returned r ∧ w'.ownsRow w.heap.size 5 1 r (prB ps).length ((prB ps).map (Value.int .u8)) ∧ Below w.heap.size w w' := by
  have HP := Lib.hid hp
  have HG : Hid (g < w.heap.size) := hg
  have HO := Lib.hid hok
  clear hp hg hok
  go_enter Try.func18, Try.ntmps18
  go_wp2_with fail
  go_loopw [3, 10] (fun v i wr => ∃ (k : Nat) (u : Value), k ≤ ps.length ∧ i = .int .i64 k ∧ u = v ∧ wr.ownsRow w.heap.size 5 1 u (prB (ps.take k)).length ((prB (ps.take k)).map (Value.int .u8)) ∧ Below w.heap.size w wr) (fun _ i _ => ps.length - (intOf i).toNat)
  case atStart => exact ⟨0, _, Nat.zero_le _, rfl, rfl, World.ownsRow_nil _ _ _ _, Below.refl _ _⟩
  case round =>
    obtain ⟨k, u, hk, rfl, rfl, hrow, hbel⟩ := hrel
    have HR := Lib.hid hrow
    have HB := Lib.hid hbel
    have HS : Hid (w.heap.size ≤ wr.heap.size) := hbel.size
    clear hrow hbel
    by_cases hlt : k < ps.length
    · obtain ⟨p0, p1⟩ := (HP.out.below HG.out HB.out) k hlt
      have hst := prB_step ps k hlt
      have hmem : ps.getD k (0, 0) ∈ ps := by rw [show ps.getD k (0, 0) = ps[k] by simp [List.getD, hlt]]; exact List.getElem_mem hlt
      have hq := HO.out _ hmem
      obtain ⟨⟨y, n⟩, hy⟩ : ∃ p, ps.getD k (0, 0) = p := ⟨_, rfl⟩
      rw [hy] at p0 p1 hst hq
      have HST := Lib.hid hst
      have HQ := Lib.hid hq
      have hlen : (prB (ps.take k)).length ≤ 140 := by
        have := prB_len (ps.take k) (fun q hq => HO.out q (List.take_subset _ _ hq))
        rw [List.length_take] at this
        omega
      obtain ⟨P, hP⟩ : ∃ P, prB (ps.take k) = P := ⟨_, rfl⟩
      rw [hP] at HR HST hlen
      have HL := Lib.hid hlen
      clear hst hq hmem hy hlen hP
      simp only at p0 p1
      have hal : Below wr.heap.size wr (wr.alloc (.cells #[.int .i64 y, .int .i64 n] 41)) := (Below.refl _ wr).alloc (Nat.le_refl _) _
      have HA := Lib.hid hal
      clear hal
      go_wp2_with fail
      refine (put_own y n _ HQ.out.1 HQ.out.2.1 HQ.out.2.2).mono ?_
      rintro e w5 ⟨r5, rfl, hr5, hb5⟩
      have HB5 : Hid (Below wr.heap.size wr w5) := HA.out.trans (hb5.mono HA.out.size)
      have T5 : Hid (Bs w5 r5 (lo y n)) := Bs_of_own (xs := lo y n) hr5 lo_byt8 (by rw [lo_len]; have := HQ.out.2.2; omega)
      have HR5 := Lib.hid (gown_below HR.out HB5.out)
      have HC5 : Hid (Below w.heap.size w w5) := HB.out.trans (HB5.out.mono HS.out)
      clear hr5 hb5 p0 p1
      go_wp2_with (at_builtin; (skip; refine app_any rfl (.tmp 22) (.tmp 23) rfl w.heap.size P (lo y n) HR5.out T5.out (by have := HL.out; have := HQ.out.2.2; rw [lo_len]; omega) HC5.out.size ?_; intro v6 w6 ho hb hs; have HR6 := Lib.hid ho; have HC6 := Lib.hid (HC5.out.trans hb); clear ho hb hs))
      go_roundw
      case rel => exact ⟨k + 1, _, by omega, by go_num, rfl, by rw [HST.out]; exact HR6.out, HC6.out⟩
      case measure => simp [intOf]; omega
    · obtain rfl : k = ps.length := by omega
      go_wp2_with fail
      go_ret
      exact ⟨_, rfl, by have := HR.out; rw [List.take_length] at this; exact this, HB.out⟩
#print axioms prow_any
#print axioms appstr_any
end Go.Proofs.Yteleedpiadcfjaa
