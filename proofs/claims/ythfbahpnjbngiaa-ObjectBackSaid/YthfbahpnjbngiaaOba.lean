/- thalweglaw04.ObjectBack: for any object, bytes ahead and behind the law answers true: what has bytes is parsed as itself, what is parsed is right and has the same bytes; no condition. -/
import Derived.Test.YthfbahpnjbngiaaOb1
import Derived.Test.YthfbahpnjbngiaaOb2
import Derived.Test.YthfbahpnjbngiaaOb3
import Derived.Test.YthfbahpnjbngiaaOb4
import Derived.WalkLawsBesides
import Derived.WalkKit
import Derived.ProofKit
import Derived.OpenShut
import Derived.ShutString
import Derived.ChangeOld
import Derived.Below
namespace Go.Proofs.Ythfbahpnjbngiaa.objectBack
open Go.ChangeShapes Go.WideShapes Go.ChangeAt Go.RowKit
open Go.ChangeMaps (open_string shut_string)
set_option linter.unusedVariables false

theorem own : ownKnob Try.prog.godebug = none := by kernel_rfl
theorem laidOut : laidOutB Try.prog = true := by kernel_rfl
open Go.Sort
def IsRow (k : IntKind) (w : World) (a : Option Addr) (len cap : Nat) (zs : List Int) : Prop :=
  (a = none ∧ len = 0 ∧ cap = 0 ∧ zs = []) ∨
  ∃ x, a = some x ∧ len ≤ cap ∧ cap ≤ maxLen ∧ zs.length = cap ∧ (∀ i, i < zs.length → w.cell? (x.add i) = some (.int k (zs.getD i 0))) ∧ ∀ n ∈ zs, (Lit.int k n).wf = true

theorem bs_of {w : World} {a : Option Addr} {len cap : Nat} {zs : List Int} (h : IsRow .u8 w a len cap zs) : Bs w (.slice a len cap) (zs.take len) ∧ (zs.take len).length = len := by
  rcases h with ⟨rfl, rfl, rfl, rfl⟩ | ⟨x, rfl, hl, hm, hz, hcell, hwz⟩
  · exact ⟨Bs_nil w, rfl⟩
  · have hlen : (zs.take len).length = len := by rw [List.length_take]; omega
    refine ⟨⟨fun n hn => ?_, by rw [hlen]; unfold maxLen at hm; omega, ?_⟩, hlen⟩
    · have := hwz n (List.take_subset _ _ hn)
      have b := bounds_u8 this
      omega
    · by_cases h0 : len = 0
      · subst h0; exact .inl ⟨some x, cap, rfl, (fun h => by cases h), by simp⟩
      · right
        obtain ⟨b, off, spot⟩ := x
        have hc := hcell 0 (by omega)
        have hspot : spot = none := by simpa [Addr.add] using World.cell?_spot hc
        subst hspot
        refine ⟨b, off, cap, by rw [hlen], by rw [hlen]; exact hl, fun i hi => ?_⟩
        have hi' : i < len := by omega
        have := hcell i (by omega)
        have hadd : (⟨b, off, none⟩ : Addr).add i = ⟨b, off + i, none⟩ := by unfold Addr.add; split <;> simp_all
        rw [hadd] at this
        rw [this]
        simp [List.getD, hi']

theorem obB_le (k x : Int) (n : Bool) (t o r d i p q s m : Int) : (obB k x n t o r d i p q s m).length ≤ 40 := by
  have h := htB_le n t o r d i
  unfold obB
  split
  · simp
  · split
    · simp; omega
    · split
      · simp [i8_len]
      · simp; omega
set_option maxHeartbeats 4000000 in
theorem walk (kd0 ds0 : Int) (hn0 : Bool) (ht0 ho0 hr0 hd0 hi0 lx0 ly0 lz0 nm0 : Int) (a1 : Option Addr) (len1 cap1 : Nat) (z1 : List Int) (a2 : Option Addr) (len2 cap2 : Nat) (z2 : List Int) (w : World) (w1 : IsRow .u8 w a1 len1 cap1 z1) (w2 : IsRow .u8 w a2 len2 cap2 z2) :
    Calls Try.prog 5 #[.agg #[.int .i64 kd0, .int .i64 ds0, .bool hn0, .int .i64 ht0, .int .i64 ho0, .int .i64 hr0, .int .i64 hd0, .int .i64 hi0, .int .i64 lx0, .int .i64 ly0, .int .i64 lz0, .int .i64 nm0], .slice a1 len1 cap1, .slice a2 len2 cap2] w fun e w' => e = .returned (.bool true) ∧ Below w.heap.size w w' := by
  obtain ⟨b1, l1⟩ := bs_of w1
  obtain ⟨b2, l2⟩ := bs_of w2
  generalize z1.take len1 = f at b1 l1
  generalize z2.take len2 = m at b2 l2
  subst l1 l2
  clear w1 w2
  by_cases c1 : (200 : Int) < (f.length : Int)
  · go_enter Try.func5, Try.ntmps5
    go_wp2_with fail
    go_ret
    exact ⟨rfl, (Below.refl _ _).alloc (Nat.le_refl _) _⟩
  by_cases c2 : (200 : Int) < (m.length : Int)
  · go_enter Try.func5, Try.ntmps5
    go_wp2_with fail
    go_ret
    exact ⟨rfl, (Below.refl _ _).alloc (Nat.le_refl _) _⟩
  have s1 : (f.length : Int) ≤ 200 := by omega
  have s2 : (m.length : Int) ≤ 200 := by omega
  obtain ⟨k3, x3, n3, t3, o3, r3, d3, i3, p3, q3, s3, m3, T, E, hp⟩ : ∃ k3 x3 n3 t3 o3 r3 d3 i3 p3 q3 s3 m3 T E, oparseS m 0 = ⟨k3, x3, n3, t3, o3, r3, d3, i3, p3, q3, s3, m3, T, E⟩ := ⟨_, _, _, _, _, _, _, _, _, _, _, _, _, _, rfl⟩
  have hinv := oparse_inv m b2.1 _ hp
  have hlB := obB_le kd0 ds0 hn0 ht0 ho0 hr0 hd0 hi0 lx0 ly0 lz0 nm0
  by_cases hA : ObOk kd0 ds0 hn0 ht0 ho0 hr0 hd0 hi0 lx0 ly0 lz0 nm0
  · have hbs : obBs kd0 ds0 hn0 ht0 ho0 hr0 hd0 hi0 lx0 ly0 lz0 nm0 = obB kd0 ds0 hn0 ht0 ho0 hr0 hd0 hi0 lx0 ly0 lz0 nm0 := if_pos hA
    by_cases he : E = 0
    · subst he
      obtain ⟨hq, T', hT', h2, hT, hS⟩ := hinv rfl
      simp only at hq hS hT'
      subst hT'
      obtain ⟨h1', h2', ⟨a, cap, hv, -, hm⟩ | ⟨b, o, cap, hv, hc, hcell⟩⟩ := id b2
      · rw [hm] at hT; simp at hT; omega
      · simp only [Value.slice.injEq, true_and] at hv
        obtain ⟨rfl, rfl⟩ := hv
        exact case_oo kd0 ds0 hn0 ht0 ho0 hr0 hd0 hi0 lx0 ly0 lz0 nm0 f m a1 b o cap1 cap2 w b1 b2 s1 s2 k3 x3 n3 t3 o3 r3 d3 i3 p3 q3 s3 m3 T' hp h2 hT hc (by rw [obBs, if_pos hq]; exact hS) (obc_ok hq) _ hbs hlB (obc_ok hA) (oparse_fwd f m hA)
    · exact case_eo kd0 ds0 hn0 ht0 ho0 hr0 hd0 hi0 lx0 ly0 lz0 nm0 f m a1 a2 cap1 cap2 w b1 b2 s1 s2 k3 x3 n3 t3 o3 r3 d3 i3 p3 q3 s3 m3 T E hp he _ hbs hlB (obc_ok hA) (oparse_fwd f m hA)
  · have hbs : obBs kd0 ds0 hn0 ht0 ho0 hr0 hd0 hi0 lx0 ly0 lz0 nm0 = [] := if_neg hA
    obtain ⟨g0, g1, g2, g3, g4, g5, g6, g7, g8, g9, g10, g11, g12, g13, hpf⟩ : ∃ g0 g1 g2 g3 g4 g5 g6 g7 g8 g9 g10 g11 g12 g13, oparseS (f ++ ([] ++ m)) f.length = ⟨g0, g1, g2, g3, g4, g5, g6, g7, g8, g9, g10, g11, g12, g13⟩ := ⟨_, _, _, _, _, _, _, _, _, _, _, _, _, _, rfl⟩
    by_cases he : E = 0
    · subst he
      obtain ⟨hq, T', hT', h2, hT, hS⟩ := hinv rfl
      simp only at hq hS hT'
      subst hT'
      obtain ⟨h1', h2', ⟨a, cap, hv, -, hm⟩ | ⟨b, o, cap, hv, hc, hcell⟩⟩ := id b2
      · rw [hm] at hT; simp at hT; omega
      · simp only [Value.slice.injEq, true_and] at hv
        obtain ⟨rfl, rfl⟩ := hv
        exact case_on kd0 ds0 hn0 ht0 ho0 hr0 hd0 hi0 lx0 ly0 lz0 nm0 f m a1 b o cap1 cap2 w b1 b2 s1 s2 k3 x3 n3 t3 o3 r3 d3 i3 p3 q3 s3 m3 T' hp h2 hT hc (by rw [obBs, if_pos hq]; exact hS) (obc_ok hq) [] hbs (by simp) (obc_no hA) rfl g0 g1 g2 g3 g4 g5 g6 g7 g8 g9 g10 g11 g12 g13 hpf
    · exact case_en kd0 ds0 hn0 ht0 ho0 hr0 hd0 hi0 lx0 ly0 lz0 nm0 f m a1 a2 cap1 cap2 w b1 b2 s1 s2 k3 x3 n3 t3 o3 r3 d3 i3 p3 q3 s3 m3 T E hp he [] hbs (by simp) (obc_no hA) rfl g0 g1 g2 g3 g4 g5 g6 g7 g8 g9 g10 g11 g12 g13 hpf

set_option maxRecDepth 100000 in
theorem lifted (os : Os) (started : os.Started) (H : Type) (enc : TypeId × Value → H) :
    ReturnsInHanded {} Try.checked os 5 .any (Rows.objectBackSpec.pre6 enc Try.prog Try.f5 Rows.objectBackRow.domain false) (Rows.objectBackSpec.post enc Try.prog Try.f5 false true false false) := by
  refine returnsInHanded_of_change (C := Try.checked) own started (by kernel_rfl) Try.func5
    (ChangeSpec.witness6 (enc := enc) (C := Try.checked) false ⟨#[], #[.agg #[.int .i64 0, .int .i64 0, .bool false, .int .i64 0, .int .i64 0, .int .i64 0, .int .i64 0, .int .i64 0, .int .i64 0, .int .i64 0, .int .i64 0, .int .i64 0], .slice none 0 0, .slice none 0 0], []⟩ 16 (by kernel_rfl) (by kernel_rfl) (by kernel_rfl) (by kernel_rfl)) ?_
  intro W base args ds gs before hval0 hW hcnd _
  have hval : ∀ (j : Nat) t v, Try.f5.params[j]? = some t → args[j]? = some v → Value.okWide Try.prog W .any base t v := hval0
  have hW' := hW
  obtain ⟨p, q, hA0, hV, rfl, hfz, hnd⟩ := hW
  have hA : DataW.TrodAll enc Try.prog W 0 (fun _ => true) true Try.f5.params.toList args.toList ds p := hA0
  rw [Try.params5] at hA hval
  obtain ⟨v0, vs0, e0, ds0, p0, q0, hargs, rfl, rfl, h0, x0⟩ := trodAll_cons hA
  obtain ⟨v1, vs1, e1, ds1, p1, q1, rfl, rfl, rfl, h1, x1⟩ := trodAll_cons x0
  obtain ⟨v2, vs2, e2, ds2, p2, q2, rfl, rfl, rfl, h2, x2⟩ := trodAll_cons x1
  obtain ⟨rfl, rfl, rfl⟩ := trodAll_nil x2
  obtain rfl : args = #[v0, v1, v2] := by cases args; simp_all
  obtain ⟨rfl, rfl⟩ := trodVars_none hV
  have k0 := h0
  have lt0 : ∀ x ∈ p0, x.block < W.heap.size := by obtain ⟨m, hm⟩ := k0; exact DataW.trod_lt m _ _ _ hm
  obtain ⟨kd0, ds0, hn0, ht0, ho0, hr0, hd0, hi0, lx0, ly0, lz0, nm0, rfl⟩ := ob_form (hval 0 37 v0 rfl rfl) h0
  have k1 := h1
  have lt1 : ∀ x ∈ p1, x.block < W.heap.size := by obtain ⟨m, hm⟩ := k1; exact DataW.trod_lt m _ _ _ hm
  obtain ⟨a1, len1, cap1, rfl⟩ := okWide_slice Try.underlying24 (hval 1 24 v1 rfl rfl)
  obtain ⟨z1, w1⟩ : ∃ zs, IsRow .u8 W a1 len1 cap1 zs := by
    obtain ⟨fuel, hf⟩ := h1
    rcases open_ints Try.underlying24 Try.underlying5 (by kernel_rfl) hf with ⟨hcs, _⟩ | ⟨x, l, c, zs, hcs, _, hl, hm, hz, _, hcell, hwz⟩
    · simp [Value.cells] at hcs
      obtain ⟨rfl, rfl, rfl⟩ := hcs
      exact ⟨[], .inl ⟨rfl, rfl, rfl, rfl⟩⟩
    · simp [Value.cells] at hcs
      obtain ⟨rfl, rfl, rfl⟩ := hcs
      exact ⟨zs, .inr ⟨_, rfl, hl, hm, by simpa using hz, hcell, hwz⟩⟩
  have k2 := h2
  have lt2 : ∀ x ∈ p2, x.block < W.heap.size := by obtain ⟨m, hm⟩ := k2; exact DataW.trod_lt m _ _ _ hm
  obtain ⟨a2, len2, cap2, rfl⟩ := okWide_slice Try.underlying24 (hval 2 24 v2 rfl rfl)
  obtain ⟨z2, w2⟩ : ∃ zs, IsRow .u8 W a2 len2 cap2 zs := by
    obtain ⟨fuel, hf⟩ := h2
    rcases open_ints Try.underlying24 Try.underlying5 (by kernel_rfl) hf with ⟨hcs, _⟩ | ⟨x, l, c, zs, hcs, _, hl, hm, hz, _, hcell, hwz⟩
    · simp [Value.cells] at hcs
      obtain ⟨rfl, rfl, rfl⟩ := hcs
      exact ⟨[], .inl ⟨rfl, rfl, rfl, rfl⟩⟩
    · simp [Value.cells] at hcs
      obtain ⟨rfl, rfl, rfl⟩ := hcs
      exact ⟨zs, .inr ⟨_, rfl, hl, hm, by simpa using hz, hcell, hwz⟩⟩
  clear hA0 hval0
  refine (walk kd0 ds0 hn0 ht0 ho0 hr0 hd0 hi0 lx0 ly0 lz0 nm0 a1 len1 cap1 z1 a2 len2 cap2 z2 W w1 w2).mono fun e W' ⟨he, bel⟩ => ?_
  subst he
  exact ⟨_, rfl, _, _, _, [], _, [], hW', trodAll_mk1 (shut_bool Try.underlying4 _), (trodAll_cons_mk (Below.trod laidOut (by kernel_rfl) (of_decide_eq_true (by kernel_rfl)) k0 bel lt0) (trodAll_cons_mk (Below.trod laidOut (by kernel_rfl) (of_decide_eq_true (by kernel_rfl)) k1 bel lt1) (trodAll_cons_mk (Below.trod laidOut (by kernel_rfl) (of_decide_eq_true (by kernel_rfl)) k2 bel lt2) trodAll_mk0))), rfl, bel.frame _, fun h => by cases h⟩

theorem over : Rows.objectBackRow.holds Try.pinned (OpenSpec.ofChange Rows.objectBackSpec) :=
  OpenClaim.holds_of_wide 5 Try.f5 rfl rfl rfl rfl rfl rfl rfl ⟨rfl, rfl, rfl, rfl, rfl⟩ rfl rfl rfl rfl rfl (by kernel_rfl) Try.func5 (by kernel_rfl)
    (of_decide_eq_true (by kernel_rfl)) (by unfold Func.isWrapper; first | (rw [if_pos (by decide +kernel)]; kernel_rfl) | (rw [if_neg (by decide +kernel)]; exact ⟨rfl, rfl⟩))
    (fun os started H enc _ => lifted os started H enc)

theorem proved : Rows.ObjectBackSaid := over
#print axioms proved
end Go.Proofs.Ythfbahpnjbngiaa.objectBack
