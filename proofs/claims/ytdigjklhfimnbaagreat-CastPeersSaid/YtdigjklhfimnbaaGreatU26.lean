/- Texts Pq7 of this proof, in one. No conditions but on lengths. -/
import Derived.Test.YtdigjklhfimnbaaGreatRows
import Derived.Test.YtdigjklhfimnbaaGreatU10
import Derived.Test.YtdigjklhfimnbaaGreatU18
import Derived.Test.YtdigjklhfimnbaaGreatU23
import Derived.ArgAppend
import Derived.Below
import Derived.BigQuiet
import Derived.Calls
import Derived.ChangeArms
import Derived.ChangeMade
import Derived.ChangeOld
import Derived.Deep.Cut
import Derived.Deep.CutBlock
import Derived.Deep.QuietTactic
import Derived.Deep.RegionHeld
import Derived.Deep.RegionLaw
import Derived.Deep.RegionWith
import Derived.Deep.Slices
import Derived.Laws.AppendOwnNone
import Derived.Laws.BytesArg
import Derived.Laws.LoneSync
import Derived.Laws.OwnMore
import Derived.Laws.StructEq
import Derived.Lib.Hide
import Derived.Lib.QuietBelow
import Derived.Lib.SliceRun
import Derived.LoopIn
import Derived.LoopTactic
import Derived.Maps.AppendAt
import Derived.OpenShut
import Derived.Orders
import Derived.Outline
import Derived.OwnWalkIn
import Derived.ProofKit
import Derived.RangeFuncBox
import Derived.RangeFuncCalls
import Derived.RangeFuncLeaves
import Derived.RangeFuncNested
import Derived.Shelf.RegionOpen
import Derived.Shelf.RegionOpenPlain
import Derived.ShutString
import Derived.StillTail
import Derived.TacticsInMore
import Derived.WalkKit
import Derived.WalkLawsBesides
import Derived.WalkSpells
import Derived.WideShapes
namespace Go.Proofs.YtdigjklhfimnbaaGreat
set_option maxRecDepth 100000
set_option linter.unusedVariables false
open Go.RowKit

/-- One pointer more. -/
theorem run_pt (w : World) (v : Value) (ps : List Nat) (hown : OwP w v ps) (b p : Nat) (hy : w.cell? ⟨b, 0, none⟩ = some (ptr p)) (hl : ps.length ≤ 3000) {ty : TypeId} :
    ∃ g cap w', (Builtin.append_ #[152, 152] ty #[v, .slice (some ⟨b, 0, none⟩) 1 1]).run Tryz.prog w = .ok (.slice (some ⟨g, 0, none⟩) (ps.length + 1) cap) w' ∧ OwP w' (.slice (some ⟨g, 0, none⟩) (ps.length + 1) cap) (ps ++ [p]) ∧ w.grownBy w' v.ownBlock ∧ (v.ownBlock = some g ∨ w.heap.size ≤ g) := by
  obtain ⟨g, cap, w', h1, h2, h3, _, h5⟩ := run_gappr RPT w 0 v ps hown b p (fun j hj => by
    have hj' : j < 1 := hj
    obtain rfl : j = 0 := by omega
    exact hy) hl (Nat.zero_le _) (ty := ty)
  exact ⟨g, cap, w', h1, h2, h3, h5⟩
/-- The blocks that letOut turns. -/
def LG (b : Nat) (vW vO : Value) : Nat → Prop := fun k => k = b ∨ vW.ownBlock = some k ∨ vO.ownBlock = some k
/-- What letOut leaves. -/
def loS (s : Sd) (x : Bt) : Sd := { s with W := s.W.drop x.2.length, L := s.L ++ [(x, 1)], nx := nxt x.1 }
section
variable {w : World} {F : Nat → Prop} {b : Nat} {s : Sd} {Z : Zs1} {vW vO : Value}
set_option maxHeartbeats 8000000 in
theorem letout_any (n : Int) (ys : List Ob) (u : Value) (h : PZ w F b s Z vW vO) (ho : ObI w F vW u ys) (hy : 0 < ys.length) (hyl : ys.length ≤ s.W.length) (hZ : Z.length ≤ 1000) :
    Calls Tryz.prog 81 #[.pointer (some ⟨b, 0, none⟩), .agg #[.int .i64 n, u]] w fun e w' => e = .returned (.tuple #[]) ∧ Chg (LG b vW vO) w w' ∧ ∃ Z' vW' vO', PZ w' (FN F w w') b (loS s (n, ys)) Z' vW' vO' ∧ (∃ p, Z' = Z ++ [(p, (n, ys), 1)]) ∧ (∀ g, vW'.ownBlock = some g → vW.ownBlock = some g) := by
  obtain ⟨au, cu, rfl⟩ := ho.os.form
  obtain ⟨aO, cO, rfl⟩ := h.oform
  obtain ⟨g, cap, rfl⟩ : ∃ g cap, vW = .slice (some ⟨g, 0, none⟩) s.W.length cap := by
    rcases h.wt.2 with ⟨_, h2⟩ | ⟨g, cap, cur, h2, _⟩
    · omega
    · exact ⟨g, cap, h2⟩
  obtain ⟨g0, hg0⟩ : ∃ g0, w.heap.size = g0 := ⟨_, rfl⟩
  obtain ⟨p, hp⟩ : ∃ p, g0 + 1 = p := ⟨_, rfl⟩
  obtain ⟨W1, hW1⟩ : ∃ W1, w.alloc (.cells #[.int .i64 n, .slice au ys.length cu] 143) = W1 := ⟨_, rfl⟩
  have hs1 : W1.heap.size = p := by rw [← hp, ← hg0, ← hW1]; simp
  have hb1 : Below w.heap.size w W1 := hW1 ▸ (Below.refl _ w).alloc (Nat.le_refl _) _
  have hg1 : W1.heap[g0]? = some (.cells #[.int .i64 n, .slice au ys.length cu] 143) := by rw [← hW1, ← hg0]; exact heap_alloc_new w _
  obtain ⟨W2, hW2⟩ : ∃ W2, W1.alloc (.cells #[.int .i64 n, .slice au ys.length cu, .int .i64 0] 176) = W2 := ⟨_, rfl⟩
  have hb2 : Below W1.heap.size W1 W2 := hW2 ▸ (Below.refl _ W1).alloc (Nat.le_refl _) _
  have hs2 : W2.heap.size = p + 1 := by rw [← hs1, ← hW2]; simp
  have hp2 : W2.heap[p]? = some (.cells #[.int .i64 n, .slice au ys.length cu, .int .i64 0] 176) := by rw [← hW2, ← hs1]; exact heap_alloc_new W1 _
  obtain ⟨W3, hW3⟩ : ∃ W3, W2.setCell ⟨p, 2, none⟩ (.int .i64 1) = W3 := ⟨_, rfl⟩
  have hs3 : W3.heap.size = p + 1 := by rw [← hs2, ← hW3]; simp [World.setCell]
  have hp3 : W3.heap[p]? = some (.cells #[.int .i64 n, .slice au ys.length cu, .int .i64 1] 176) := by rw [← hW3, heap_setCell_same W2 p 2 _ 176 _ hp2]; rfl
  have hc3 : Chg (fun k => k = p) W2 W3 := hW3 ▸ chg_pt _ _ _ _
  obtain ⟨W4, hW4⟩ : ∃ W4, W3.alloc (.cells #[ptr p] 170) = W4 := ⟨_, rfl⟩
  have hb4 : Below W3.heap.size W3 W4 := hW4 ▸ (Below.refl _ W3).alloc (Nat.le_refl _) _
  have hs4 : W4.heap.size = p + 2 := by rw [← hW4]; simp; omega
  have hFp : ∀ k, F k → k < g0 := fun k hk => hg0 ▸ h.lt k hk
  have hcg4 : Chg (fun k => w.heap.size ≤ k) w W4 := (((chg0 hb1 : Chg (fun k => w.heap.size ≤ k) w W1).trans (G := fun _ => False) (chg0 hb2) (fun _ _ e => e.elim)).trans hc3 (fun x _ e => by omega)).trans (G := fun _ => False) (chg0 hb4) (fun _ _ e => e.elim)
  have hoff : ∀ k, F k → ¬ w.heap.size ≤ k := fun k hk => by have := h.lt k hk; omega
  have h4 := (h.keep hcg4 hoff).mono (F' := FN F w W4) (fun k hk => .inl hk) (FN.lt h.lt hcg4.size)
  have ho4 : ObI W4 (FN F w W4) (.slice (some ⟨g, 0, none⟩) s.W.length cap) (.slice au ys.length cu) ys := (ho.chg hcg4 (fun k hk _ _ => hoff k hk)).mono (fun k hk => .inl hk)
  have hp4 : W4.heap[p]? = some (.cells #[.int .i64 n, .slice au ys.length cu, .int .i64 1] 176) := (hb4.block p (by omega)).trans hp3
  have hsn : SndAt W4 (FN F w W4) (.slice (some ⟨g, 0, none⟩) s.W.length cap) p ((n, ys), 1) := ⟨.inr (by omega), _, hp4, ho4⟩
  obtain ⟨ps, hps⟩ : ∃ ps, Z.map Prod.fst = ps := ⟨_, rfl⟩
  have hpl : ps.length = Z.length := by rw [← hps, List.length_map]
  have hot4 : OwP W4 (.slice aO Z.length cO) ps := hps ▸ h4.ot
  obtain ⟨gq, cq, W5, hr5, hq5, hg5, hv5⟩ := run_pt W4 (.slice aO Z.length cO) ps hot4 W3.heap.size p (by rw [← hW4]; simp) (by omega) (ty := 152)
  rw [hpl] at hr5 hq5
  have hnd : ((Z ++ [(p, (n, ys), 1)]).map Prod.fst).Nodup := by
    rw [List.map_append, List.nodup_append]
    refine ⟨h.nd, by simp, fun a ha b2 hb2 e => ?_⟩
    simp only [List.map_cons, List.map_nil, List.mem_singleton] at hb2
    obtain ⟨z, hz, rfl⟩ := List.mem_map.1 ha
    have := hFp _ (h.snd z hz).f
    omega
  have h6 := h4.oset (chg_grown hg5) (vO' := .slice (some ⟨gq, 0, none⟩) (Z.length + 1) cq) (Z' := Z ++ [(p, (n, ys), 1)]) (by
    rw [List.map_append, hps]
    exact hq5) (fun g2 hg2 => by cases hg2; exact hv5) hnd (fun z hz => by
    rcases List.mem_append.1 hz with h1 | h1
    · exact h4.snd z h1
    · rw [List.mem_singleton.1 h1]; exact hsn)
  obtain ⟨W6, hW6⟩ : ∃ W6, W5.setCell ⟨b, 4, none⟩ (.slice (some ⟨gq, 0, none⟩) (Z.length + 1) cq) = W6 := ⟨_, rfl⟩
  rw [hW6] at h6
  have hcg5 : Chg (LG b (.slice (some ⟨g, 0, none⟩) s.W.length cap) (.slice aO Z.length cO)) w W5 := (hcg4.mono (G := fun k => (LG b (.slice (some ⟨g, 0, none⟩) s.W.length cap) (.slice aO Z.length cO)) k ∨ w.heap.size ≤ k) (fun x _ e => .inr e)).trans (G := fun k => (LG b (.slice (some ⟨g, 0, none⟩) s.W.length cap) (.slice aO Z.length cO)) k ∨ w.heap.size ≤ k) ((chg_grown hg5).mono (fun x _ e => .inl (.inr (.inr e)))) (fun _ _ e => e) |> fun q => ⟨q.os, q.tape, q.output, q.size, fun k hk hn => q.block k hk (fun e => e.elim hn (fun e2 => by omega))⟩
  have hcg6 : Chg (LG b (.slice (some ⟨g, 0, none⟩) s.W.length cap) (.slice aO Z.length cO)) w W6 := hW6 ▸ hcg5.setCell (.inl (.inl rfl)) _
  have hbO : ∀ g2, (Value.slice aO Z.length cO).ownBlock = some g2 → g2 ≠ b := fun g2 e => (own_blk h.ot e).ne h.bt (by decide)
  have hb5 : W5.heap[b]? = some (.cells #[.int .i64 s.win, .int .i64 s.tries, .int .i64 s.nx, .slice (some ⟨g, 0, none⟩) s.W.length cap, .slice aO Z.length cO] 154) := by
    have e5 := (chg_grown hg5).block b (h4.lt b h4.fb) (fun e => hbO b e rfl)
    exact e5.trans h4.hp
  have hbW3 := (h.keep ((((chg0 hb1 : Chg (fun k => w.heap.size ≤ k) w W1).trans (G := fun _ => False) (chg0 hb2) (fun _ _ e => e.elim)).trans hc3 (fun x _ e => by omega))) hoff)
  have hg6 : W6.heap[g0]? = some (.cells #[.int .i64 n, .slice au ys.length cu] 143) := by
    have e1 : W2.heap[g0]? = W1.heap[g0]? := hb2.block g0 (by omega)
    have e2 : W3.heap[g0]? = W2.heap[g0]? := hc3.block g0 (by omega) (by omega)
    have e3 : W4.heap[g0]? = W3.heap[g0]? := hb4.block g0 (by omega)
    have e4 : W5.heap[g0]? = W4.heap[g0]? := (chg_grown hg5).block g0 (by omega) (fun e => by have := hFp _ (h.of g0 e); omega)
    have hgb : g0 ≠ b := fun e => by have := hFp b h.fb; omega
    have e5 : W6.heap[g0]? = W5.heap[g0]? := by rw [← hW6]; exact Below.heap_setCell _ _ _ _ hgb
    rw [e5, e4, e3, e2, e1]; exact hg1
  have hfg : F g := h.wf g rfl
  have C6 := Lib.hid (odel_any g cap s.W ys.length W6.drew h6.wt hy hyl)
  have CS := Lib.hid (sstore_any p 2 0 1 W2 (by simp [World.cell?, hp2]) (by simp [World.frozen?, hp2]))
  rw [← hW4] at hr5
  obtain ⟨d0, d1, d2, d3, d4, df⟩ := hbW3.cells
  have x40 : W5.cell? ⟨b, 4, none⟩ = some (.slice aO Z.length cO) := by simp [World.cell?, hb5]
  have x4f : ∀ j, W5.frozen? ⟨b, j, none⟩ = false := fun j => by simp [World.frozen?, hb5]
  have HX4 := Lib.hid (And.intro x40 x4f)
  have HD := Lib.hid (And.intro d4 df)
  have H6 := Lib.hid h6
  have HCG6 := Lib.hid hcg6
  have HW1 := Lib.hid hW1
  have HW2 := Lib.hid hW2
  have HW3 := Lib.hid hW3
  have HW6 := Lib.hid hW6
  have HG0 := Lib.hid hg0
  have HP := Lib.hid hp
  have HS1 := Lib.hid hs1
  have HG6 := Lib.hid hg6
  have HG1 := Lib.hid hg1
  have HR5 := Lib.hid hr5
  have HFG := Lib.hid hfg
  have HZL := Lib.hid h.zl
  have HFB := Lib.hid h.fb
  have HFP := Lib.hid hFp
  have HY := Lib.hid hyl
  have HSZ : Hid (w.heap.size ≤ W4.heap.size ∧ W4.heap.size ≤ W5.heap.size ∧ W5.heap.size = W6.heap.size) := ⟨hcg4.size, hg5.size, by rw [← hW6]; simp [World.setCell]⟩
  clear hW1 hW2 hW3 hW4 hW6 hg0 hp hs1 hs2 hs3 hs4 hb1 hb2 hb4 hc3 hcg4 hcg5 hcg6 hoff h4 ho4 hp4 hsn hps hpl hot4 hr5 hq5 hg5 hv5 hnd h6 hbO hb5 hbW3 hg6 hg1 hfg d0 d1 d2 d3 d4 df x40 x4f h ho hp2 hp3 hFp hyl
  go_enter Tryz.func81, Tryz.ntmps81
  go_upto_region 1 with (fail)
  rw [HW1.out]
  simp only [HG0.out]
  have v0 : W1.cell? ⟨g0, 0, none⟩ = some (.int .i64 n) := by simp [World.cell?, HG1.out]
  have v1 : W1.cell? ⟨g0, 1, none⟩ = some (.slice au ys.length cu) := by simp [World.cell?, HG1.out]
  go_upto_region 2 with (fail)
  rw [HW2.out]
  simp only [HS1.out]
  clear v0 v1
  go_wp2_with fail
  refine CS.out.mono ?_
  rintro e w9 ⟨rfl, rfl⟩
  rw [HW3.out]
  obtain ⟨d4, df⟩ := HD.out
  go_upto_region 4 with (at_builtin; refine app_go rfl (.tmp 16) (.tmp 18) 152 rfl _ _ _ _ rfl rfl HR5.out ?_; obtain ⟨x40, x4f⟩ := HX4.out; clear d4 df)
  rw [HW6.out]
  obtain ⟨m0, m1, m2, m3, m4, mf⟩ := H6.out.cells
  have v0 : W6.cell? ⟨g0, 0, none⟩ = some (.int .i64 n) := by simp [World.cell?, HG6.out]
  have v1 : W6.cell? ⟨g0, 1, none⟩ = some (.slice au ys.length cu) := by simp [World.cell?, HG6.out]
  clear m0 m1 m2 m4 x40 x4f
  go_region_with (go_at_call 127; refine C6.out.mono ?_; rintro e W7 ⟨rfl, hq7, hc7⟩; have HQ7 := Lib.hid hq7; have HC7 := Lib.hid hc7; clear hq7 hc7 m3 mf v0 v1; have hp7 : W7.heap[b]? = W6.heap[b]? := HC7.out.block b (H6.out.lt b H6.out.fb) (fun e => (own_blk H6.out.wt (e ▸ rfl : (Value.slice (some ⟨g, 0, none⟩) s.W.length cap).ownBlock = some b)).ne H6.out.bt (by decide) rfl); have m3 : W7.cell? ⟨b, 3, none⟩ = some (.slice (some ⟨g, 0, none⟩) s.W.length cap) := (World.cell?_of_block hp7).trans H6.out.cells.2.2.2.1; have mf : ∀ j, W7.frozen? ⟨b, j, none⟩ = false := (fun j => (World.frozen?_of_block hp7).trans (H6.out.cells.2.2.2.2.2 j)); clear hp7)
  all_goals
    obtain ⟨W8, hW8⟩ : ∃ W8, W7.setCell ⟨b, 3, none⟩ (.slice (some ⟨g, 0, none⟩) (s.W.length - ys.length) cap) = W8 := ⟨_, rfl⟩
    have hc67 : Chg (fun k => (Value.slice (some ⟨g, 0, none⟩) s.W.length cap).ownBlock = some k) W6 W7 := ((Chg.refl _ W6).drew.trans HC7.out (fun _ _ e => e)).mono (fun x _ e => by rw [e]; rfl)
    have ho7 : OwO W7 0 (.slice (some ⟨g, 0, none⟩) (s.W.length - ys.length) cap) (s.W.drop ys.length) := HQ7.out
    have h8 := H6.out.wset hc67 ho7 (fun g2 hg2 => .inl hg2)
    rw [hW8] at h8
    have hg8 : W8.heap[g0]? = some (.cells #[.int .i64 n, .slice au ys.length cu] 143) := by
      have e1 : W7.heap[g0]? = W6.heap[g0]? := HC7.out.block g0 (some_lt HG6.out) (fun e => by have := HFP.out g HFG.out; omega)
      have e2 : W8.heap[g0]? = W7.heap[g0]? := by rw [← hW8]; exact Below.heap_setCell _ _ _ _ (fun e => by have h9 := HFP.out b HFB.out; have e9 : g0 = b := e; omega)
      rw [e2, e1]; exact HG6.out
    have v0 : W8.cell? ⟨g0, 0, none⟩ = some (.int .i64 n) := by simp [World.cell?, hg8]
    have CN := Lib.hid (z_next_any n W8)
    have hcg8 : Chg (LG b (.slice (some ⟨g, 0, none⟩) s.W.length cap) (.slice aO Z.length cO)) w W8 := hW8 ▸ ((HCG6.out.trans hc67 (fun x _ e => .inr (.inl e))).setCell (.inl (.inl rfl)) _)
    have HCG8 := Lib.hid hcg8
    have H8 := Lib.hid h8
    have HS7 : Hid (W6.heap.size ≤ W7.heap.size ∧ W7.heap.size = W8.heap.size) := ⟨hc67.size, by rw [← hW8]; simp [World.setCell]⟩
    have HW8 := Lib.hid hW8
    clear hW8 hc67 ho7 h8 hg8 hcg8 m3 mf
    rw [HW8.out]
    go_wp2_with fail
    refine CN.out.mono ?_
    rintro e W9 ⟨rfl, hb9⟩
    have h9 := H8.out.below hb9
    obtain ⟨c0, c1, c2, c3, c4, cf⟩ := h9.cells
    have h10 := h9.nset (z_nxt n)
    have hcg10 : Chg (LG b (.slice (some ⟨g, 0, none⟩) s.W.length cap) (.slice aO Z.length cO)) w (W9.setCell ⟨b, 2, none⟩ (.int .i64 (z_nxt n))) := (HCG8.out.trans (G := fun _ => False) (chg0 hb9) (fun _ _ e => e.elim)).setCell (.inl (.inl rfl)) _
    have HCG10 := Lib.hid hcg10
    have H10 := Lib.hid h10
    have HS9 : Hid (W8.heap.size ≤ W9.heap.size) := hb9.size
    clear v0 c0 c1 c3 c4 hb9 h9 h10 hcg10
    go_wp2_with fail
    go_end0
    have hz : z_nxt n = nxt n := by unfold z_nxt nxt; omega
    have hfin := H10.out.mono (F' := FN F w (W9.setCell ⟨b, 2, none⟩ (.int .i64 (z_nxt n)))) (fun k hk => by
      obtain ⟨s1, s2, s3⟩ := HSZ.out
      obtain ⟨s4, s5⟩ := HS7.out
      have s6 := HS9.out
      have s7 : (W9.setCell ⟨b, 2, none⟩ (.int .i64 (z_nxt n))).heap.size = W9.heap.size := by simp [World.setCell]
      unfold FN at hk ⊢
      rcases hk with ((hk | hk) | hk) | hk
      · exact .inl hk
      · exact .inr (by omega)
      · exact .inr (by omega)
      · exact .inr (by omega)) (FN.lt (fun k hk => by have := HFP.out k hk; have := HG0.out; omega) HCG10.out.size)
    have hst : { s with W := s.W.drop ys.length, L := (Z ++ [(p, (n, ys), 1)]).map Prod.snd, nx := z_nxt n } = loS s (n, ys) := by
      unfold loS
      rw [hz, HZL.out, List.map_append]
      rfl
    refine ⟨rfl, HCG10.out, _, .slice (some ⟨g, 0, none⟩) (s.W.length - ys.length) cap, _, hst ▸ hfin, ⟨p, rfl⟩, fun g2 hg2 => hg2⟩
end
end Go.Proofs.YtdigjklhfimnbaaGreat
