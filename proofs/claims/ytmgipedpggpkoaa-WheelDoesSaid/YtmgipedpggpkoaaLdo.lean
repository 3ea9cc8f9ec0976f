/- thalweglaw11.WheelDoes: for any number and script of calls the law answers true; no condition. -/
import Derived.Test.YtmgipedpggpkoaaWmt
import Derived.Test.YtmgipedpggpkoaaWpg
import Derived.Deep.RegionHeld
import Derived.Deep.CutBlock
import Derived.WalkLawsBesides
import Derived.WalkKit
import Derived.ProofKit
import Derived.OpenShut
import Derived.ShutString
import Derived.ChangeOld
import Derived.Below
namespace Go.Proofs.Ytmgipedpggpkoaa.wheelDoes
open Go.ChangeShapes Go.WideShapes Go.ChangeAt Go.RowKit
open Go.ChangeMaps (open_string shut_string)
set_option linter.unusedVariables false
set_option maxRecDepth 100000

theorem own : ownKnob Try.prog.godebug = none := by kernel_rfl
theorem laidOut : laidOutB Try.prog = true := by kernel_rfl

theorem insF_none {l : List Tm} {key at_ : Int} (h : ∀ y ∈ l, ¬ later key at_ y) : insL l key at_ = l ++ [(at_, key)] := by
  have hf : ∀ (l : List Tm) (xs : List Tm), (∀ y ∈ l, ¬ later key at_ y) → l.foldl (insS key at_) (xs, false) = (xs ++ l, false) := by
    intro l
    induction l with
    | nil => intro xs _; rw [List.append_nil]; rfl
    | cons y r ih =>
      intro xs hy
      have e : insS key at_ (xs, false) y = (xs ++ [y], false) := by unfold insS; rw [if_neg (fun h => hy y (by simp) h.2)]
      rw [List.foldl_cons, e, ih _ (fun z hz => hy z (by simp [hz])), List.append_assoc]
      rfl
  have e : insF key at_ l = (l, false) := by unfold insF; rw [hf l [] h]; rfl
  unfold insL
  rw [e]
  rfl
/-- The timers that are set ahead of the script. -/
def mk (k : Nat) : List Tm := (List.range (min k 1024)).map (fun j : Nat => ((1000, (j : Int)) : Tm))
theorem mk_len (k : Nat) : (mk k).length = min k 1024 := by simp [mk]
theorem mk_mem {k : Nat} {y : Tm} (h : y ∈ mk k) : y.1 = 1000 ∧ y.2 < (k : Int) := by
  obtain ⟨j, hj, rfl⟩ := List.mem_map.1 h
  have := List.mem_range.1 hj
  exact ⟨rfl, by show (j : Int) < k; omega⟩
theorem mk_isset (k : Nat) : issetL (mk k) (k : Int) = false := by
  unfold issetL
  refine List.any_eq_false.2 fun y hy => ?_
  have := (mk_mem hy).2
  simp [isKey]
  omega
theorem mk_stop (k : Nat) : stopL (mk k) (k : Int) = mk k := by
  unfold stopL
  refine List.filter_eq_self.2 fun y hy => ?_
  have := (mk_mem hy).2
  simp [isKey]
  omega
theorem mk_set (k : Nat) (h : k < 1024) : setE (mk k) k 1000 = 0 ∧ setL (mk k) k 1000 = mk k ++ [(1000, (k : Int))] ∧ mk (k + 1) = mk k ++ [(1000, (k : Int))] := by
  have hb : ¬ badT (k : Int) 1000 := by unfold badT; omega
  have hf : ¬ (issetL (mk k) (k : Int) = false ∧ 1024 ≤ (mk k).length) := fun hh => by have := hh.2; rw [mk_len] at this; omega
  refine ⟨?_, ?_, ?_⟩
  · unfold setE
    rw [if_neg hb, if_neg hf]
  · unfold setL
    rw [if_neg hb, if_neg hf, mk_stop]
    exact insF_none fun y hy h => by
      obtain ⟨h1, h2⟩ := mk_mem hy
      rcases h with h | h <;> omega
  · unfold mk
    rw [show min (k + 1) 1024 = min k 1024 + 1 by omega, List.range_succ, List.map_append, show min k 1024 = k by omega]
    rfl
theorem mk_full (k : Nat) (h : 1024 ≤ k) : setE (mk k) k 1000 = 8 ∧ setL (mk k) k 1000 = mk k ∧ mk (k + 1) = mk k := by
  have hb : ¬ badT (k : Int) 1000 := by unfold badT; omega
  have hf : issetL (mk k) (k : Int) = false ∧ 1024 ≤ (mk k).length := ⟨mk_isset k, by rw [mk_len]; omega⟩
  refine ⟨?_, ?_, ?_⟩
  · unfold setE
    rw [if_neg hb, if_pos hf]
  · unfold setL
    rw [if_neg hb, if_pos hf]
  · unfold mk
    rw [show min (k + 1) 1024 = min k 1024 by omega]
/-- Ahead of the script: the reference's timers lie in a row of their own. -/
structure Ini (WSt : World → (Nat → Prop) → Nat → List Tm → Prop) (w0 w : World) (b bx : Nat) (v : Value) (L L' : List Tm) : Prop where
  q : WS WSt w0 w (fun k => k = bx ∨ v.ownBlock = some k) b L
  hp : w.heap[bx]? = some (.cells #[v] 28)
  own : OwM w (bx + 1) v L'
  bx0 : w0.heap.size ≤ bx
theorem Ini.lt {WSt : World → (Nat → Prop) → Nat → List Tm → Prop} {w0 w : World} {b bx : Nat} {v : Value} {L L' : List Tm} (h : Ini WSt w0 w b bx v L L') : bx < w.heap.size := (Array.getElem?_eq_some_iff.1 h.hp).1
theorem Ini.cells {WSt : World → (Nat → Prop) → Nat → List Tm → Prop} {w0 w : World} {b bx : Nat} {v : Value} {L L' : List Tm} (h : Ini WSt w0 w b bx v L L') : w.cell? ⟨bx, 0, none⟩ = some v ∧ ∀ j, w.frozen? ⟨bx, j, none⟩ = false :=
  ⟨by simp [World.cell?, h.hp], fun j => by simp [World.frozen?, h.hp]⟩
theorem Ini.qstep {WSt : World → (Nat → Prop) → Nat → List Tm → Prop} {w0 w w' : World} {b bx : Nat} {v : Value} {L L' L2 : List Tm} (h : Ini WSt w0 w b bx v L L') (hq : WS WSt w0 w' (fun k => k = bx ∨ v.ownBlock = some k) b L2) (hch : Chg (Off w0 (fun k => k = bx ∨ v.ownBlock = some k)) w w') : Ini WSt w0 w' b bx v L2 L' :=
  ⟨hq, (hch.block bx h.lt (off_no (.inl rfl))).trans h.hp, h.own.chg hch (fun k hk => off_no (.inr hk)), h.bx0⟩
theorem Ini.app {WSt : World → (Nat → Prop) → Nat → List Tm → Prop} (hc : Wc WSt) {w0 w w' : World} {b bx g n c : Nat} {v : Value} {L L' L2 : List Tm} (h : Ini WSt w0 w b bx v L L') (ho : OwM w' (bx + 1) (.slice (some ⟨g, 0, none⟩) n c) L2) (hch : Chg (fun k => v.ownBlock = some k) w w') (hg : v.ownBlock = some g ∨ w.heap.size ≤ g) :
    Ini WSt w0 (w'.setCell ⟨bx, 0, none⟩ (.slice (some ⟨g, 0, none⟩) n c)) b bx (.slice (some ⟨g, 0, none⟩) n c) L L2 := by
  have hbx : ¬ v.ownBlock = some bx := fun e => by have := (h.own.lt bx e).1; omega
  have hp1 : w'.heap[bx]? = some (.cells #[v] 28) := (hch.block bx h.lt hbx).trans h.hp
  have hc1 : Chg (fun k => k = bx) w' (w'.setCell ⟨bx, 0, none⟩ (.slice (some ⟨g, 0, none⟩) n c)) := Chg.setCell (F := fun k => k = bx) (p := ⟨bx, 0, none⟩) (Chg.refl _ w') (.inl rfl) _
  have hgl := ho.lt g rfl
  have hq1 := h.q.keep hc hch (K' := fun k => (k = bx ∨ v.ownBlock = some k) ∨ k = g) (fun k hk => .inr hk) (fun k hk => hk.elim (fun e => e ▸ h.bx0) (fun e => by have := (h.own.lt k e).1; have := h.bx0; omega)) (fun k hk => hk.elim (fun e => .inl e) (fun e => by subst e; exact hg.imp (fun e => .inr e) (fun e => e))) (fun k hk => by
    rcases hk with (hk | hk) | hk
    · subst hk; exact Nat.lt_of_lt_of_le h.lt hch.size
    · exact Nat.lt_of_lt_of_le (h.own.lt k hk).2 hch.size
    · subst hk; exact hgl.2)
  have hq2 := hq1.keep hc hc1 (K' := fun k => k = bx ∨ (Value.slice (some ⟨g, 0, none⟩) n c).ownBlock = some k) (fun k hk => .inl (.inl hk)) (fun k hk => by
    rcases hk with (hk | hk) | hk
    · subst hk; exact h.bx0
    · have := (h.own.lt k hk).1; have := h.bx0; omega
    · subst hk; have := hgl.1; have := h.bx0; omega) (fun k hk => .inl (hk.elim (fun e => .inl (.inl e)) (fun e => .inr (by cases e; rfl)))) (fun k hk => by
    rcases hk with hk | hk
    · subst hk; exact Nat.lt_of_lt_of_le (Nat.lt_of_lt_of_le h.lt hch.size) hc1.size
    · exact Nat.lt_of_lt_of_le (ho.lt k hk).2 hc1.size)
  refine ⟨hq2, ?_, ho.chg hc1 (fun k hk e => by have := (ho.lt k hk).1; omega), h.bx0⟩
  simp only [World.setCell, Array.getElem?_modify, hp1]
  simp
/-- The blocks of the reference's wheel. -/
def XF (bx : Nat) (v : Value) (k : Nat) : Prop := k = bx ∨ ∃ a n c, v = .slice (some a) n c ∧ a.block = k
theorem xw_fr {w : World} {bx : Nat} {v : Value} {l : List Tm} (h : XW w bx v l) {k : Nat} (hk : XF bx v k) : bx ≤ k ∧ k < w.heap.size := by
  rcases hk with rfl | ⟨a, n, c, e, rfl⟩
  · exact ⟨Nat.le_refl _, h.lt⟩
  · have := h.ap a n c e
    omega
theorem xw_off {w w' w0 : World} {bx : Nat} {v : Value} {l : List Tm} {K : Nat → Prop} (h : XW w bx v l) (hch : Chg (Off w0 K) w w') (hK : ∀ k, XF bx v k → K k) : XW w' bx v l :=
  h.chg hch (off_no (hK bx (.inl rfl))) (fun a n c e => off_no (hK a.block (.inr ⟨a, n, c, e, rfl⟩)))
theorem Ini.done {WSt : World → (Nat → Prop) → Nat → List Tm → Prop} {w0 w : World} {b bx : Nat} {v : Value} {L L' : List Tm} (h : Ini WSt w0 w b bx v L L') : WS WSt w0 w (XF bx v) b L ∧ XW w bx v L' :=
  ⟨h.q.less (fun k hk => hk.elim (fun e => .inl e) (fun ⟨a, n, c, e, e2⟩ => .inr (by rw [e]; exact congrArg some e2))), ⟨h.hp, h.own.ms, fun a n c e => by have := h.own.apart a n c e; omega⟩⟩
/-- The program's wheel and the reference's; beside them a variable of a call. -/
structure Duo (WSt : World → (Nat → Prop) → Nat → List Tm → Prop) (w0 w : World) (b bx g : Nat) (v : Value) (y : OpT) (L L' : List Tm) : Prop where
  q : WS WSt w0 w (fun k => XF bx v k ∨ k = g) b L
  x : XW w bx v L'
  o : C3 w g 0 y
  bx0 : w0.heap.size ≤ bx
  ng : ¬ XF bx v g
  g0 : w0.heap.size ≤ g
section
variable {WSt : World → (Nat → Prop) → Nat → List Tm → Prop} {w0 w w' : World} {b bx g : Nat} {v v' : Value} {y : OpT} {L L' L2 : List Tm}
theorem Duo.ol (h : Duo WSt w0 w b bx g v y L L') : g < w.heap.size := World.block_lt_of_cell? w _ h.o.1
theorem c3_chg {F : Nat → Prop} {w w' : World} (h : C3 w g 0 y) (hl : g < w.heap.size) (hc : Chg F w w') (hn : ¬ F g) : C3 w' g 0 y :=
  ⟨(hc.cell hl hn).trans h.1, (hc.cell hl hn).trans h.2.1, (hc.cell hl hn).trans h.2.2⟩
theorem Duo.dn (hc : Wc WSt) (h : Duo WSt w0 w b bx g v y L L') (n : Nat) : Duo WSt w0 (w.drewN n) b bx g v y L L' := ⟨h.q.dn hc n, ⟨h.x.hp, h.x.ms, h.x.ap⟩, h.o, h.bx0, h.ng, h.g0⟩
theorem Duo.drew (hc : Wc WSt) (h : Duo WSt w0 w b bx g v y L L') : Duo WSt w0 w.drew b bx g v y L L' := h.dn hc 1
/-- A call on the program's wheel. -/
theorem Duo.qstep (h : Duo WSt w0 w b bx g v y L L') (hq : WS WSt w0 w' (fun k => XF bx v k ∨ k = g) b L2) (hch : Chg (Off w0 (fun k => XF bx v k ∨ k = g)) w w') : Duo WSt w0 w' b bx g v y L2 L' :=
  ⟨hq, xw_off h.x hch (fun k hk => .inl hk), c3_chg h.o h.ol hch (off_no (.inr rfl)), h.bx0, h.ng, h.g0⟩
/-- A call on the reference's. -/
theorem Duo.xstep (hc : Wc WSt) (h : Duo WSt w0 w b bx g v y L L') (hch : Chg (fun k => k = bx) w w') (hx : XW w' bx v' L2) (hv : ∀ a n c, v' = .slice (some a) n c → XF bx v a.block ∨ w.heap.size ≤ a.block) : Duo WSt w0 w' b bx g v' y L L2 := by
  have hno : ∀ k, XF bx v' k → XF bx v k ∨ w.heap.size ≤ k := fun k hk => by
    rcases hk with rfl | ⟨a, n, c, e, rfl⟩
    · exact .inl (.inl rfl)
    · exact hv a n c e
  have hgb : ¬ g = bx := fun e => h.ng (.inl e)
  have ho := c3_chg h.o h.ol hch hgb
  refine ⟨h.q.keep hc hch (fun k hk => .inl (.inl hk)) (fun k hk => ?_) (fun k hk => ?_) (fun k hk => ?_), hx, ho, h.bx0, fun hk => ?_, h.g0⟩
  · rcases hk with hk | rfl
    · exact Nat.le_trans h.bx0 (xw_fr h.x hk).1
    · exact h.g0
  · rcases hk with hk | rfl
    · exact (hno k hk).imp (fun h => .inl h) (fun h => h)
    · exact .inl (.inr rfl)
  · rcases hk with hk | rfl
    · exact (xw_fr hx hk).2
    · exact Nat.lt_of_lt_of_le h.ol hch.size
  · rcases hno g hk with h1 | h1
    · exact h.ng h1
    · have := h.ol
      omega
theorem Duo.under (hc : Wc WSt) (h : Duo WSt w0 w b bx g v y L L') (hb : Below w.heap.size w w') : Duo WSt w0 w' b bx g v y L L' :=
  ⟨h.q.under hc hb, h.x.below hb, c3_chg h.o h.ol (F := fun _ => False) (chg0 hb) (fun h => h), h.bx0, h.ng, h.g0⟩
end
theorem dueK_len (l : List Tm) (now : Int) : (dueK l now).length ≤ l.length := by
  unfold dueK
  rw [List.length_map]
  exact (List.takeWhile_sublist _).length_le
theorem xSet_any (b : Nat) (v : Value) (l : List Tm) (key at_ : Int) (w : World) (h : XW w b v l) (hl : l.length ≤ 1400) :
    Calls Try.prog 10 #[.pointer (some ⟨b, 0, none⟩), .int .i64 key, .int .i64 at_] w fun e w' => e = .returned (.int .i64 (setE l key at_)) ∧ Chg (fun k => k = b) w w' ∧ ∃ v', XW w' b v' (setL l key at_) ∧ ∀ a n c, v' = .slice (some a) n c → XF b v a.block ∨ w.heap.size ≤ a.block := by
  by_cases h1 : badT key at_
  · refine (xSet_bad b l key at_ w h1).mono ?_
    rintro e w' ⟨rfl, rfl⟩
    exact ⟨rfl, Chg.refl _ _, v, by unfold setL; rw [if_pos h1]; exact h, fun a n c e => .inl (.inr ⟨a, n, c, e, rfl⟩)⟩
  · by_cases h2 : issetL l key = false ∧ 1024 ≤ l.length
    · refine (xSet_full b v l key at_ w h (by omega) h1 h2).mono ?_
      rintro e w' ⟨rfl, rfl⟩
      exact ⟨rfl, Chg.refl _ _, v, by unfold setL; rw [if_neg h1, if_pos h2]; exact h, fun a n c e => .inl (.inr ⟨a, n, c, e, rfl⟩)⟩
    · refine (xSet_ok b v l key at_ w h hl h1 h2).mono ?_
      rintro e w' ⟨rfl, hc, v', hx, hv⟩
      exact ⟨rfl, hc, v', hx, fun a n c e => .inr (hv a n c e)⟩
set_option maxHeartbeats 32000000 in
theorem walk {WSt : World → (Nat → Prop) → Nat → List Tm → Prop} (hc : Wc WSt) (a0 : Int) (w0 : I64 a0) (a1 : Option Addr) (cap1 : Nat) (z1 : List OpT) (w : World) (w1 : Sc w (.slice a1 z1.length cap1) z1) (q1 : OpsW z1):
    Calls Try.prog 3 #[.int .i64 a0, .slice a1 z1.length cap1] w fun e w' => e = .returned (.bool true) ∧ Below w.heap.size w w' := by
  have HSC := Lib.hid w1
  have HOW := Lib.hid q1
  clear w1 q1
  go_enter Try.func3, Try.ntmps3
  by_cases k1 : (150 : Int) < (z1.length : Int)
  · have d1 : decide ((150 : Int) < (z1.length : Int)) = true := decide_eq_true k1
    clear k1
    go_wp2_with fail
    go_ret
    exact ⟨rfl, Below.refl _ _⟩
  · have d1 : decide ((150 : Int) < (z1.length : Int)) = false := decide_eq_false k1
    have hl150 : z1.length ≤ 150 := by omega
    clear k1
    by_cases k2 : a0 < 0
    · have d2 : decide (a0 < 0) = true := decide_eq_true k2
      clear k2
      go_wp2_with fail
      go_ret
      exact ⟨rfl, Below.refl _ _⟩
    · have d2 : decide (a0 < 0) = false := decide_eq_false k2
      by_cases k5 : 40 < a0 ∧ a0 < 1020
      · have d3 : decide (40 < a0) = true := decide_eq_true k5.1
        have d4 : decide (a0 < 1020) = true := decide_eq_true k5.2
        clear k2 k5
        go_wp2_with fail
        go_ret
        exact ⟨rfl, Below.refl _ _⟩
      · by_cases k6 : 1030 < a0
        · have d3 : decide (40 < a0) = true := decide_eq_true (by omega)
          have d4 : decide (a0 < 1020) = false := decide_eq_false (by omega)
          have d5 : decide (1030 < a0) = true := decide_eq_true k6
          clear k2 k5 k6
          go_wp2_with fail
          go_ret
          exact ⟨rfl, Below.refl _ _⟩
        · obtain ⟨N0, hN0⟩ : ∃ N0 : Nat, a0 = (N0 : Int) := ⟨a0.toNat, by omega⟩
          have hN1 : N0 ≤ 1030 := by omega
          have HN1 := Lib.hid hN1
          go_upto_region 1 with (fail)
          go_cut [33] from 15 to 34 (fun r wx => r = .bool false ∧ w = wx)
          case first =>
            have d5 : decide (1030 < a0) = false := decide_eq_false k6
            by_cases k3 : 40 < a0
            · have d3 : decide (40 < a0) = true := decide_eq_true k3
              have d4 : decide (a0 < 1020) = false := decide_eq_false (by omega)
              clear k2 k3 k5 k6 hN0
              go_wp2_with fail
              go_meet
              case rel => exact ⟨rfl, rfl⟩
            · have d3 : decide (40 < a0) = false := decide_eq_false k3
              clear k2 k3 k5 k6 hN0
              go_wp2_with fail
              go_meet
              case rel => exact ⟨rfl, rfl⟩
          case rest =>
            obtain ⟨rfl, rfl⟩ := hcut
            subst hN0
            clear d1 d2 k2 k5 k6
            have C1 := Lib.hid (hc.news w)
            go_wp2_with fail
            refine C1.out.mono ?_
            rintro e W1 ⟨b, rfl, hq, -⟩
            have HQ := Lib.hid hq
            clear hq C1
            go_upto_region 7 with (fail)
            have hb2 : Below W1.heap.size W1 (W1.alloc (.cells #[.slice none 0 0] 28)) := (Below.refl _ W1).alloc (Nat.le_refl _) _
            obtain ⟨W2, hW2⟩ : ∃ W2, W1.alloc (.cells #[.slice none 0 0] 28) = W2 := ⟨_, rfl⟩
            have HI : Hid (Ini WSt w W2 b W1.heap.size (.slice none 0 0) (mk 0) (mk 0)) := by
              rw [hW2] at hb2
              refine ⟨HQ.out.more hc hb2 (fun k hk => hk.elim (fun e => .inr ⟨Nat.le_of_eq e.symm, by rw [e, ← hW2]; simp⟩) (fun e => by cases e)), by rw [← hW2]; exact heap_alloc_new W1 _, OwM_nil _ _, HQ.out.bel.size⟩
            obtain ⟨bx, hbx⟩ : ∃ bx, W1.heap.size = bx := ⟨_, rfl⟩
            simp only [hW2]
            rw [hbx] at HI ⊢
            clear hb2 hW2 hbx HQ
            go_wp2_with fail
            go_loopw [7] (fun i wr => ∃ (k : Nat) (av : Option Addr) (nv cv : Nat), k ≤ N0 ∧ i = .int .i64 k ∧ Hid (Ini WSt w wr b bx (.slice av nv cv) (mk k) (mk k))) (fun i _ => N0 - (intOf i).toNat)
            case atStart => exact ⟨0, none, 0, 0, Nat.zero_le _, rfl, HI.out⟩
            case round =>
              clear HI
              obtain ⟨k, av, nv, cv, hk, rfl, HI⟩ := hrel
              obtain rfl : nv = (mk k).length := by obtain ⟨a9, c9, h9⟩ := HI.out.own.form; cases h9; rfl
              rw [mk_len] at HI
              by_cases hlt : k < N0
              · have hki : (k : Int) < (N0 : Int) := by omega
                by_cases h4 : k < 1024
                · obtain ⟨e1, e2, e3⟩ := mk_set k h4
                  have E3 := Lib.hid e3
                  have hmin : min k 1024 = k := by omega
                  rw [hmin] at HI
                  have C2 := Lib.hid (hc.sets HI.out.q (k : Int) 1000 (i64_small (by omega)))
                  rw [e1, e2] at C2
                  have hk4 : (k : Int) < 1024 := by omega
                  have HMK : Hid ((mk k).length = k) := by show _ = _; rw [mk_len, hmin]
                  clear e1 e2 e3 hmin
                  go_wp2_with fail
                  refine C2.out.mono ?_
                  rintro e W3 ⟨rfl, hq, hch⟩
                  have HI3 := Lib.hid (HI.out.qstep hq hch)
                  clear hq hch
                  obtain ⟨c0, cf⟩ := HI3.out.cells
                  have hbl := HI3.out.lt
                  go_wp2_with (at_builtin; refine mapp2_any rfl (.tmp 62) (.tmp 65) rfl rfl W3 (1000, (k : Int)) rfl (bx + 1) (.slice av k cv) (mk k) rfl rfl (by have := HI3.out.own; exact this) (by have := HMK.out; omega) hbl ?_; intro g4 c4 w4 ho4 hch4 hg4; rw [HMK.out]; rw [HMK.out] at ho4; have HI4 := Lib.hid (HI3.out.app hc ho4 hch4 hg4); clear c0 cf; obtain ⟨c0, cf⟩ : w4.cell? ⟨bx, 0, none⟩ = some (.slice av k cv) ∧ ∀ j, w4.frozen? ⟨bx, j, none⟩ = false := ⟨(hch4.cell HI3.out.lt (fun e => by have := (HI3.out.own.lt bx e).1; omega)).trans HI3.out.cells.1, fun j => (hch4.frozen HI3.out.lt (fun e => by have := (HI3.out.own.lt bx e).1; omega)).trans (HI3.out.cells.2 j)⟩; clear ho4 hch4 hg4)
                  go_roundw
                  case rel =>
                    refine ⟨k + 1, some ⟨g4, 0, none⟩, k + 1, c4, by omega, by go_num, ?_⟩
                    rw [E3.out]
                    exact HI4.out
                  case measure => simp [intOf]; omega
                · obtain ⟨e1, e2, e3⟩ := mk_full k (by omega)
                  have E3 := Lib.hid e3
                  have hmin : min k 1024 = 1024 := by omega
                  rw [hmin] at HI
                  have C2 := Lib.hid (hc.sets HI.out.q (k : Int) 1000 (i64_small (by omega)))
                  rw [e1, e2] at C2
                  have hk4 : ¬ (k : Int) < 1024 := by omega
                  clear e1 e2 e3 hmin
                  go_wp2_with fail
                  refine C2.out.mono ?_
                  rintro e W3 ⟨rfl, hq, hch⟩
                  have HI3 := Lib.hid (HI.out.qstep hq hch)
                  clear hq hch
                  obtain ⟨c0, cf⟩ := HI3.out.cells
                  go_wp2_with fail
                  go_roundw
                  case rel =>
                    refine ⟨k + 1, av, 1024, cv, by omega, by go_num, ?_⟩
                    rw [E3.out]
                    exact HI3.out
                  case measure => simp [intOf]; omega
              · obtain rfl : k = N0 := by omega
                obtain ⟨hq, hx⟩ := HI.out.done
                have HQ2 := Lib.hid hq
                have HX2 := Lib.hid hx
                have HBX := Lib.hid HI.out.bx0
                clear hq hx HI
                go_wp2_with fail
                go_loopw [8] (fun i wr => ∃ (k : Nat) (L : List Tm) (v : Value), k ≤ z1.length ∧ i = .int .i64 k ∧ Hid (WS WSt w wr (XF bx v) b L) ∧ Hid (XW wr bx v L)) (fun i _ => z1.length - (intOf i).toNat)
                case atStart => exact ⟨0, _, _, Nat.zero_le _, rfl, HQ2.out, HX2.out⟩
                case round =>
                  clear HQ2 HX2
                  obtain ⟨k, L, v, hk, rfl, HQR, HXR⟩ := hrel
                  by_cases hlt : k < z1.length
                  · obtain ⟨b2, off, rfl, hB, p0, p1, p2⟩ := (HSC.out.below (HQR.out.bel.mono (Nat.le_refl _))).at hlt
                    obtain ⟨y, hy⟩ : ∃ y, z1.getD k zOp = y := ⟨_, rfl⟩
                    have HYW : Hid (OpW y) := hy ▸ HOW.out.at hlt
                    rw [hy] at p0 p1 p2
                    clear hy
                    have hL9 : L.length ≤ 1024 := (HQR.out.ok hc).len
                    have HLL : Hid (L.length ≤ 1400) := Nat.le_trans hL9 (by decide)
                    have HLL2 : Hid (L.length ≤ 2000) := Nat.le_trans hL9 (by decide)
                    have HKL : Hid ((dueK L y.2.2).length ≤ 4000) := Nat.le_trans (dueK_len L _) (Nat.le_trans hL9 (by decide))
                    clear hL9
                    obtain ⟨W4, hW4⟩ : ∃ W4, wr.alloc (.cells #[.int .i64 y.1, .int .i64 y.2.1, .int .i64 y.2.2] 34) = W4 := ⟨_, rfl⟩
                    have HT4 : Hid (Duo WSt w W4 b bx wr.heap.size v y L L) := by
                      have hb4 : Below wr.heap.size wr W4 := hW4 ▸ (Below.refl _ wr).alloc (Nat.le_refl _) _
                      refine ⟨HQR.out.more hc hb4 (fun k hk => hk.imp (fun h => h) (fun e => ⟨Nat.le_of_eq e.symm, by rw [e, ← hW4]; simp⟩)), HXR.out.below hb4, ?_, HBX.out, fun h => by have := (xw_fr HXR.out h).2; omega, HQR.out.bel.size⟩
                      rw [← hW4]
                      exact ⟨by simp, by simp, by simp⟩
                    go_upto_region 18 with (fail)
                    obtain ⟨g9, hg9⟩ : ∃ g9, wr.heap.size = g9 := ⟨_, rfl⟩
                    rw [hg9] at HT4 ⊢
                    clear hW4 p0 p1 p2 hB HXR HQR
                    obtain ⟨o0, o1, o2⟩ := HT4.out.o
                    simp only [Nat.zero_add] at o0 o1 o2
                    go_upto_block 4 with fail
                    go_cut [10, 11, 12, 13, 14] from 79 to 136 (fun ok _ _ _ _ wx => ok = .bool true ∧ ∃ (L2 : List Tm) (v2 : Value), Hid (Duo WSt w wx b bx g9 v2 y L2 L2))
                    case rest =>
                      obtain ⟨rfl, L2, v2, HT⟩ := hcut
                      obtain ⟨av2, cv2, hv2⟩ := HT.out.x.ms.form
                      subst hv2
                      obtain ⟨c0, cf⟩ := HT.out.x.cells
                      have C3 := Lib.hid (hc.lists (HT.out.drew hc).q)
                      have HL2 : Hid (L2.length ≤ 3000) := by show _ ≤ _; have := (HT.out.q.ok hc).len; omega
                      go_wp2_with fail
                      try go_simp
                      go_region_held (fun w' => w'.cell? ⟨bx, 0, none⟩ = some (.slice av2 L2.length cv2)) (first | exact c0 | go_keep) (first
                        | (go_at_call 19; refine C3.out.mono ?_; rintro e W8 ⟨⟨aa, ca, rfl, ho, hq⟩, hch⟩; have HX8 := Lib.hid (xw_off (HT.out.drew hc).x hch (fun k hk => .inl hk)); have HQ8 := Lib.hid (hq.less (K' := XF bx _) (fun k hk => .inl (.inl hk))); have C4 := Lib.hid (xsame_any _ _ _ _ W8 ho.ms HX8.out.ms HL2.out); clear ho hq hch c0 cf; obtain ⟨c0, cf⟩ := HX8.out.cells)
                        | (go_at_call 18; refine C4.out.mono ?_; rintro e Wf ⟨⟨qf, rfl, hqf⟩, hbf⟩; obtain rfl : qf = true := hqf.2 (by first | rfl | trivial); have HX9 := Lib.hid (HX8.out.below hbf); have HQ9 := Lib.hid (HQ8.out.under hc hbf); clear hbf hqf c0 cf; obtain ⟨c0, cf⟩ := HX9.out.cells))
                      all_goals
                        go_wp2_with fail
                        go_roundw
                        case rel => exact ⟨k + 1, _, _, by omega, by go_num, HQ9.out, HX9.out⟩
                        case measure => simp [intOf]; omega
                    case first =>
                      by_cases t0 : y.1 = 0
                      case neg =>
                        have tn : (y.1 == 0) = false := by simpa using t0
                        by_cases t1 : y.1 = 1
                        · have tq : (y.1 == 1) = true := by simpa using t1
                          clear t0 t1
                          have C1 := Lib.hid (hc.stops (HT4.out.drew hc).q y.2.1 HYW.out.2.1)
                          go_wp2_with fail
                          go_region_held (fun w' => w'.cell? ⟨g9, 1, none⟩ = some (.int .i64 y.2.1) ∧ w'.cell? ⟨g9, 2, none⟩ = some (.int .i64 y.2.2)) (first | exact ⟨o1, o2⟩ | go_keep) (first
                            | (go_at_call 11; refine C1.out.mono ?_; rintro e W5 ⟨rfl, hq, hch⟩; have HT5 := Lib.hid ((HT4.out.drew hc).qstep hq hch); have C2 := Lib.hid (xStop_any bx v L y.2.1 W5 HT5.out.x HLL2.out); clear hq hch o0 o1 o2; obtain ⟨o0, o1, o2⟩ := HT5.out.o; simp only [Nat.zero_add] at o0 o1 o2)
                            | (go_at_call 12; refine C2.out.mono ?_; rintro e W6 ⟨rfl, hch, v9, hx, hv⟩; have HT6 := Lib.hid (HT5.out.xstep hc hch hx (fun a n c e => .inr (hv a n c e))); clear hch hx hv o0 o1 o2; obtain ⟨o0, o1, o2⟩ := HT6.out.o; simp only [Nat.zero_add] at o0 o1 o2))
                          all_goals
                            go_wp2_with fail
                            go_meet
                            case rel => exact ⟨rfl, _, _, HT6.out⟩
                        · have tn1 : (y.1 == 1) = false := by simpa using t1
                          by_cases t2 : y.1 = 2
                          · have tq : (y.1 == 2) = true := by simpa using t2
                            clear t0 t1 t2
                            have C1 := Lib.hid (hc.dues (HT4.out.drew hc).q y.2.2)
                            have HBL : Hid (bx < W4.drew.heap.size) := HT4.out.x.lt
                            go_wp2_with fail
                            go_region_held (fun w' => w'.cell? ⟨g9, 1, none⟩ = some (.int .i64 y.2.1) ∧ w'.cell? ⟨g9, 2, none⟩ = some (.int .i64 y.2.2)) (first | exact ⟨o1, o2⟩ | go_keep) (first
                              | (go_at_call 14; refine C1.out.mono ?_; rintro e W5 ⟨⟨ar, cr, rfl, ho, hq⟩, hch⟩; have HT5 := Lib.hid ((HT4.out.drew hc).qstep (hq.less (fun k hk => .inl hk)) hch); have HR5 := Lib.hid ho; have C2 := Lib.hid (xDue_any bx v L y.2.2 W5 HT5.out.x HLL2.out); clear ho; clear hq hch o0 o1 o2; obtain ⟨o0, o1, o2⟩ := HT5.out.o; simp only [Nat.zero_add] at o0 o1 o2)
                              | (go_at_call 15; refine C2.out.mono ?_; rintro e W6 ⟨⟨as_, cs_, rfl, ho⟩, hch, v9, hx, hv⟩; have HT6 := Lib.hid (HT5.out.xstep hc hch hx (fun a n c e => by obtain ⟨_, a', n', c', h2, h3⟩ := hv a n c e; exact .inl (.inr ⟨a', n', c', h2, h3⟩))); have hr6 := HR5.out.chg hch (fun k hk e => by have := (HR5.out.lt k hk).1; have := HBL.out; omega); have C3 := Lib.hid (ints_any _ _ _ _ W6 (hr6.zs HKL.out) (ho.zs HKL.out)); rw [decide_eq_true (rfl : dueK L y.2.2 = dueK L y.2.2)] at C3; clear ho hch hx hv hr6 o0 o1 o2; obtain ⟨o0, o1, o2⟩ := HT6.out.o; simp only [Nat.zero_add] at o0 o1 o2)
                              | (go_at_call 13; refine C3.out.mono ?_; rintro e W7 ⟨rfl, hb⟩; have HT7 := Lib.hid (HT6.out.under hc hb); clear hb o0 o1 o2; obtain ⟨o0, o1, o2⟩ := HT7.out.o; simp only [Nat.zero_add] at o0 o1 o2))
                            all_goals
                              go_wp2_with fail
                              go_meet
                              case rel => exact ⟨rfl, _, _, HT7.out⟩
                          · have tn2 : (y.1 == 2) = false := by simpa using t2
                            clear t0 t1 t2
                            have C1 := Lib.hid (hc.nexts HT4.out.q)
                            obtain ⟨nv, hn1⟩ : ∃ nv, nextV L = nv := ⟨_, rfl⟩
                            obtain ⟨nb, hn2⟩ : ∃ nb, nextB L = nb := ⟨_, rfl⟩
                            have HN1 := Lib.hid hn1
                            have HN2 := Lib.hid hn2
                            clear hn1 hn2
                            cases nb with
                            | false =>
                              go_wp2_with fail
                              refine C1.out.mono ?_
                              rintro e W5 ⟨rfl, hq, hch⟩
                              have HT5 := Lib.hid (HT4.out.qstep hq hch)
                              rw [HN1.out, HN2.out]
                              have C2 := Lib.hid (xNext_any bx v L W5 HT5.out.x HLL2.out)
                              rw [HN1.out, HN2.out] at C2
                              clear hq hch C1 o0 o1 o2
                              go_wp2_with fail
                              refine C2.out.mono ?_
                              rintro e W6 ⟨rfl, rfl⟩
                              go_wp2_with fail
                              go_meet
                              case rel => exact ⟨rfl, _, _, HT5.out⟩
                            | true =>
                              go_wp2_with fail
                              refine C1.out.mono ?_
                              rintro e W5 ⟨rfl, hq, hch⟩
                              have HT5 := Lib.hid (HT4.out.qstep hq hch)
                              rw [HN1.out, HN2.out]
                              have C2 := Lib.hid (xNext_any bx v L W5 HT5.out.x HLL2.out)
                              rw [HN1.out, HN2.out] at C2
                              clear hq hch C1 o0 o1 o2
                              go_wp2_with fail
                              refine C2.out.mono ?_
                              rintro e W6 ⟨rfl, rfl⟩
                              go_wp2_with fail
                              go_meet
                              case rel => exact ⟨rfl, _, _, HT5.out⟩
                      case pos =>
                        have tq : (y.1 == 0) = true := by simpa using t0
                        clear t0
                        have C1 := Lib.hid (hc.sets (HT4.out.drew hc).q y.2.1 y.2.2 HYW.out.2.1)
                        go_wp2_with fail
                        go_region_held (fun w' => w'.cell? ⟨g9, 1, none⟩ = some (.int .i64 y.2.1) ∧ w'.cell? ⟨g9, 2, none⟩ = some (.int .i64 y.2.2)) (first | exact ⟨o1, o2⟩ | go_keep) (first
                          | (go_at_call 9; refine C1.out.mono ?_; rintro e W5 ⟨rfl, hq, hch⟩; have HT5 := Lib.hid ((HT4.out.drew hc).qstep hq hch); have C2 := Lib.hid (xSet_any bx v L y.2.1 y.2.2 W5 HT5.out.x HLL.out); clear hq hch o0 o1 o2; obtain ⟨o0, o1, o2⟩ := HT5.out.o; simp only [Nat.zero_add] at o0 o1 o2)
                          | (go_at_call 10; refine C2.out.mono ?_; rintro e W6 ⟨rfl, hch, v9, hx, hv⟩; have HT6 := Lib.hid (HT5.out.xstep hc hch hx hv); clear hch hx hv o0 o1 o2; obtain ⟨o0, o1, o2⟩ := HT6.out.o; simp only [Nat.zero_add] at o0 o1 o2))
                        all_goals
                          go_wp2_with fail
                          go_meet
                          case rel => exact ⟨rfl, _, _, HT6.out⟩
                  · obtain rfl : k = z1.length := by omega
                    have C9 := Lib.hid (awake11 hc wr)
                    go_wp2_with fail
                    refine C9.out.mono ?_
                    rintro e W9 ⟨rfl, hb⟩
                    have HB9 := Lib.hid (HQR.out.bel.trans (hb.mono HQR.out.bel.size))
                    clear hb C9
                    go_wp2_with fail
                    go_ret
                    exact ⟨rfl, HB9.out⟩

set_option maxRecDepth 100000 in
theorem lifted (os : _root_.Go.Os) (started : os.Started) (H : Type) (enc : TypeId × Value → H) :
    ReturnsInHanded {} Try.checked os 3 .any (Rows.wheelDoesSpec.pre6 enc Try.prog Try.f3 Rows.wheelDoesRow.domain false) (Rows.wheelDoesSpec.post enc Try.prog Try.f3 false true false false) := by
  refine returnsInHanded_of_change (C := Try.checked) own started (by kernel_rfl) Try.func3
    (ChangeSpec.witness6 (enc := enc) (C := Try.checked) false ⟨#[], #[.int .i64 0, .slice none 0 0], []⟩ 16 (by kernel_rfl) (by kernel_rfl) (by kernel_rfl) (by kernel_rfl)) ?_
  intro W base args ds gs before hval0 hW hcnd _
  have hval : ∀ (j : Nat) t v, Try.f3.params[j]? = some t → args[j]? = some v → Value.okWide Try.prog W .any base t v := hval0
  have hW' := hW
  obtain ⟨p, q, hA0, hV, rfl, hfz, hnd⟩ := hW
  have hA : DataW.TrodAll enc Try.prog W 0 (fun _ => true) true Try.f3.params.toList args.toList ds p := hA0
  rw [Try.params3] at hA hval
  obtain ⟨v0, vs0, e0, ds0, p0, q0, hargs, rfl, rfl, h0, x0⟩ := trodAll_cons hA
  obtain ⟨v1, vs1, e1, ds1, p1, q1, rfl, rfl, rfl, h1, x1⟩ := trodAll_cons x0
  obtain ⟨rfl, rfl, rfl⟩ := trodAll_nil x1
  obtain rfl : args = #[v0, v1] := by cases args; simp_all
  obtain ⟨rfl, rfl⟩ := trodVars_none hV
  have k0 := h0
  have lt0 : ∀ x ∈ p0, x.block < W.heap.size := by obtain ⟨m, hm⟩ := k0; exact DataW.trod_lt m _ _ _ hm
  obtain ⟨a0, rfl, _, _, w0⟩ := open_int Try.underlying3 (hval 0 3 v0 rfl rfl) h0
  have k1 := h1
  have lt1 : ∀ x ∈ p1, x.block < W.heap.size := by obtain ⟨m, hm⟩ := k1; exact DataW.trod_lt m _ _ _ hm
  obtain ⟨a1, len1, cap1, rfl⟩ := okWide_slice underOPS (hval 1 22 v1 rfl rfl)
  obtain ⟨z1, hz1, w1, q1⟩ := sc_form h1
  subst hz1
  clear hA0 hval0
  refine (walk wc a0 (i64_wf w0) a1 cap1 z1 W w1 q1).mono fun e W' ⟨he, bel⟩ => ?_
  subst he
  exact ⟨_, rfl, _, _, _, [], _, [], hW', trodAll_mk1 (shut_bool Try.underlying4 _), (trodAll_cons_mk (Below.trod laidOut (by kernel_rfl) (of_decide_eq_true (by kernel_rfl)) k0 bel lt0) (trodAll_cons_mk (Below.trod laidOut (by kernel_rfl) (of_decide_eq_true (by kernel_rfl)) k1 bel lt1) trodAll_mk0)), rfl, bel.frame _, fun h => by cases h⟩

theorem over : Rows.wheelDoesRow.holds Try.pinned (OpenSpec.ofChange Rows.wheelDoesSpec) :=
  OpenClaim.holds_of_wide 3 Try.f3 rfl rfl rfl rfl rfl rfl rfl ⟨rfl, rfl, rfl, rfl, rfl⟩ rfl rfl rfl rfl rfl (by kernel_rfl) Try.func3 (by kernel_rfl)
    (of_decide_eq_true (by kernel_rfl)) (by unfold Func.isWrapper; first | (rw [if_pos (by decide +kernel)]; kernel_rfl) | (rw [if_neg (by decide +kernel)]; exact ⟨rfl, rfl⟩))
    (fun os started H enc _ => lifted os started H enc)

theorem proved : Rows.WheelDoesSaid := over
#print axioms proved
end Go.Proofs.Ytmgipedpggpkoaa.wheelDoes
