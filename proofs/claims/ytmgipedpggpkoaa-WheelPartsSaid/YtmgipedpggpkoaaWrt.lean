/- The reference's wheel: Set, Stop. No conditions but on lengths. -/
import Derived.Test.YtmgipedpggpkoaaWrs
import Derived.Deep.Cut
import Derived.Deep.CutBlock
namespace Go.Proofs.Ytmgipedpggpkoaa
set_option maxRecDepth 100000
open Go.RowKit

theorem mapp2_any {ops : Array Oper} {rest : List Oper} {o : Oper} {a : Act} {Q : Exit → Act → World → Prop} {W : World} (hgd : o.guard = none) (s x : Operand) (hty : o.type = 26)
    (ho : o.op = .call { callee := .builtin .append, args := #[s, x], argTypes := #[26, 26] }) (w : World) (y : Tm) (hW : W = w.alloc (.cells #[.int .i64 y.1, .int .i64 y.2] 32)) (S : Nat) (v : Value) (xs : List Tm)
    (hs : a.eval s = v) (hx : a.eval x = .slice (some ⟨w.heap.size, 0, none⟩) 1 1) (hown : OwM w S v xs) (hl : xs.length ≤ 3000) (hS : S ≤ w.heap.size)
    (h : ∀ g cap w', OwM w' S (.slice (some ⟨g, 0, none⟩) (xs.length + 1) cap) (xs ++ [y]) → Chg (fun k => v.ownBlock = some k) w w' → (v.ownBlock = some g ∨ w.heap.size ≤ g) → wpList Try.prog ops Q rest (a.put o.dst (.slice (some ⟨g, 0, none⟩) (xs.length + 1) cap)) w') : wpList Try.prog ops Q (o :: rest) a W := by
  subst hW
  have hb : Below w.heap.size w (w.alloc (.cells #[.int .i64 y.1, .int .i64 y.2] 32)) := (Below.refl _ w).alloc (Nat.le_refl _) _
  obtain ⟨g, cap, w1, hr, h2, h3, _⟩ := run_gapp (R := RM) (w.alloc (.cells #[.int .i64 y.1, .int .i64 y.2] 32)) 26 S v xs (hown.below hb) w.heap.size y (gc_alloc RM w y _ rfl 32) hl (Nat.le_trans hS hb.size)
  obtain ⟨g2, cap2, w2, hr2, _, _, h5⟩ := run_gapp2 RM (w.alloc (.cells #[.int .i64 y.1, .int .i64 y.2] 32)) 26 S v xs (hown.below hb) w.heap.size y (gc_alloc RM w y _ rfl 32) hl (Nat.le_trans hS hb.size)
  have e := hr.symm.trans hr2
  simp only [Result.ok.injEq, Value.slice.injEq, Option.some.injEq, Addr.mk.injEq, and_true, true_and] at e
  obtain ⟨⟨e1, _⟩, _⟩ := e
  refine wpList_plain hgd fun K hK => ?_
  unfold Oper.wp
  rw [gexec_append ho hs hx (by rw [hty]; exact hr)]
  refine hK _ _ (h g cap w1 h2 (((Chg.refl _ w).alloc _).grown h3 (fun k hk => .inl hk)) ((e1 ▸ h5).imp (fun h => h) (fun h => Nat.le_trans hb.size h)))
theorem chg_own {w w' : World} {S : Nat} {v : Value} {l : List Tm} (ho : OwM w S v l) (h : Chg (fun k => v.ownBlock = some k) w w') (hS : S ≤ w.heap.size) : Below S w w' :=
  h.below hS (fun k hk => (ho.lt k hk).1)
/-- Which timers come behind a new one. -/
def later (key at_ : Int) (y : Tm) : Prop := at_ < y.1 ∨ (y.1 = at_ ∧ key < y.2)
instance (key at_ : Int) (y : Tm) : Decidable (later key at_ y) := by unfold later; infer_instance
/-- A new timer is laid ahead of the first one that comes behind it. -/
def insS (key at_ : Int) (s : List Tm × Bool) (y : Tm) : List Tm × Bool := if s.2 = false ∧ later key at_ y then (s.1 ++ [(at_, key), y], true) else (s.1 ++ [y], s.2)
def insF (key at_ : Int) (l : List Tm) : List Tm × Bool := l.foldl (insS key at_) ([], false)
def insL (l : List Tm) (key at_ : Int) : List Tm := if (insF key at_ l).2 then (insF key at_ l).1 else (insF key at_ l).1 ++ [(at_, key)]
def badT (key at_ : Int) : Prop := at_ < 0 ∨ 1000000000000 < at_ ∨ key < 0
instance (key at_ : Int) : Decidable (badT key at_) := by unfold badT; infer_instance
def setE (l : List Tm) (key at_ : Int) : Int := if badT key at_ then 1 else if issetL l key = false ∧ 1024 ≤ l.length then 8 else 0
def setL (l : List Tm) (key at_ : Int) : List Tm := if badT key at_ then l else if issetL l key = false ∧ 1024 ≤ l.length then l else insL (stopL l key) key at_
def stopE (l : List Tm) (key : Int) : Int := if issetL l key then 0 else 7
theorem insF_step (key at_ : Int) (l : List Tm) (k : Nat) (h : k < l.length) : insF key at_ (l.take (k + 1)) = insS key at_ (insF key at_ (l.take k)) (l.getD k zTm) := by
  rw [tm_take l k h]
  unfold insF
  rw [List.foldl_append]
  rfl
theorem insF_len (key at_ : Int) (l : List Tm) : (insF key at_ l).1.length ≤ 2 * l.length := by
  have h : ∀ (l : List Tm) (s : List Tm × Bool), (l.foldl (insS key at_) s).1.length ≤ s.1.length + 2 * l.length := by
    intro l
    induction l with
    | nil => intro s; simp
    | cons y r ih =>
      intro s
      rw [List.foldl_cons]
      refine Nat.le_trans (ih _) ?_
      unfold insS
      split <;> simp <;> omega
  have := h l ([], false)
  unfold insF
  simpa using this
set_option maxHeartbeats 8000000 in
theorem xSet_bad (b : Nat) (l : List Tm) (key at_ : Int) (w : World) (hb : badT key at_) :
    Calls Try.prog 10 #[.pointer (some ⟨b, 0, none⟩), .int .i64 key, .int .i64 at_] w fun e w' => e = .returned (.int .i64 (setE l key at_)) ∧ w = w' := by
  rw [show setE l key at_ = 1 from if_pos hb]
  by_cases h1 : at_ < 0
  · have d1 : decide (at_ < 0) = true := decide_eq_true h1
    clear hb
    go_enter Try.func10, Try.ntmps10
    go_wp2_with fail
    go_ret
    exact ⟨rfl, rfl⟩
  · by_cases h2 : 1000000000000 < at_
    · have d1 : decide (at_ < 0) = false := decide_eq_false h1
      have d2 : decide (1000000000000 < at_) = true := decide_eq_true h2
      clear hb
      go_enter Try.func10, Try.ntmps10
      go_wp2_with fail
      go_ret
      exact ⟨rfl, rfl⟩
    · have h3 : key < 0 := by rcases hb with h | h | h <;> omega
      have d1 : decide (at_ < 0) = false := decide_eq_false h1
      have d2 : decide (1000000000000 < at_) = false := decide_eq_false h2
      have d3 : decide (key < 0) = true := decide_eq_true h3
      clear hb
      go_enter Try.func10, Try.ntmps10
      go_wp2_with fail
      go_ret
      exact ⟨rfl, rfl⟩
set_option maxHeartbeats 8000000 in
theorem xSet_full (b : Nat) (v : Value) (l : List Tm) (key at_ : Int) (w : World) (h : XW w b v l) (hl : l.length ≤ 2000) (hb : ¬ badT key at_) (hf : issetL l key = false ∧ 1024 ≤ l.length) :
    Calls Try.prog 10 #[.pointer (some ⟨b, 0, none⟩), .int .i64 key, .int .i64 at_] w fun e w' => e = .returned (.int .i64 (setE l key at_)) ∧ w = w' := by
  rw [show setE l key at_ = 8 by unfold setE; rw [if_neg hb, if_pos hf]]
  have C1 := Lib.hid (xis_any b v l key w h hl)
  rw [hf.1] at C1
  obtain ⟨a, c, rfl⟩ := h.ms.form
  obtain ⟨c0, cf⟩ := h.cells
  have h1 : ¬ at_ < 0 := fun e => hb (.inl e)
  have h2 : ¬ 1000000000000 < at_ := fun e => hb (.inr (.inl e))
  have h3 : ¬ key < 0 := fun e => hb (.inr (.inr e))
  have h4 : (1024 : Int) ≤ (l.length : Int) := by omega
  have d1 : decide (at_ < 0) = false := decide_eq_false h1
  have d2 : decide (1000000000000 < at_) = false := decide_eq_false h2
  have d3 : decide (key < 0) = false := decide_eq_false h3
  have d4 : decide ((1024 : Int) ≤ (l.length : Int)) = true := decide_eq_true h4
  have d5 : decide (1024 ≤ l.length) = true := decide_eq_true hf.2
  clear hb hf h
  go_enter Try.func10, Try.ntmps10
  go_wp2_with fail
  refine C1.out.mono ?_
  rintro e w1 ⟨rfl, rfl⟩
  go_wp2_with fail
  go_ret
  exact ⟨rfl, rfl⟩
set_option maxHeartbeats 16000000 in
theorem xSet_ok (b : Nat) (v : Value) (l : List Tm) (key at_ : Int) (w : World) (h : XW w b v l) (hl : l.length ≤ 1400) (hb : ¬ badT key at_) (hf : ¬ (issetL l key = false ∧ 1024 ≤ l.length)) :
    Calls Try.prog 10 #[.pointer (some ⟨b, 0, none⟩), .int .i64 key, .int .i64 at_] w fun e w' => e = .returned (.int .i64 (setE l key at_)) ∧ Chg (fun k => k = b) w w' ∧ ∃ v', XW w' b v' (setL l key at_) ∧ ∀ a n c, v' = .slice (some a) n c → w.heap.size ≤ a.block := by
  rw [show setE l key at_ = 0 by unfold setE; rw [if_neg hb, if_neg hf], show setL l key at_ = insL (stopL l key) key at_ by unfold setL; rw [if_neg hb, if_neg hf]]
  have C1 := Lib.hid (xis_any b v l key w h (by omega))
  have C2 := Lib.hid (xstop_any b v l key w h (by omega))
  have hbw := h.lt
  have HSL : Hid ((stopL l key).length ≤ 1400) := Nat.le_trans (stopL_le l key) hl
  obtain ⟨a, c, rfl⟩ := h.ms.form
  obtain ⟨c0, cf⟩ := h.cells
  have h1 : ¬ at_ < 0 := fun e => hb (.inl e)
  have h2 : ¬ 1000000000000 < at_ := fun e => hb (.inr (.inl e))
  have h3 : ¬ key < 0 := fun e => hb (.inr (.inr e))
  have d1 : decide (at_ < 0) = false := decide_eq_false h1
  have d2 : decide (1000000000000 < at_) = false := decide_eq_false h2
  have d3 : decide (key < 0) = false := decide_eq_false h3
  have HBW := Lib.hid hbw
  clear hb h hbw
  generalize stopL l key = l2 at *
  go_enter Try.func10, Try.ntmps10
  go_upto_region 3 with (fail)
  go_cut [32] from 21 to 33 (fun r wx => r = .bool false ∧ w = wx)
  case first =>
    by_cases hi : issetL l key = true
    · rw [hi] at C1
      clear hf
      go_wp2_with fail
      refine C1.out.mono ?_
      rintro e w1 ⟨rfl, rfl⟩
      go_wp2_with fail
      go_meet
      case rel => exact ⟨rfl, rfl⟩
    · have hi : issetL l key = false := by simpa using hi
      have hn : l.length < 1024 := by
        rcases Nat.lt_or_ge l.length 1024 with h | h
        · exact h
        · exact absurd ⟨hi, h⟩ hf
      have hn2 : ¬ (1024 : Int) ≤ (l.length : Int) := by omega
      have hn3 : ¬ 1024 ≤ l.length := by omega
      rw [hi] at C1
      clear hf
      go_wp2_with fail
      refine C1.out.mono ?_
      rintro e w1 ⟨rfl, rfl⟩
      go_wp2_with fail
      go_meet
      case rel => exact ⟨by rw [show decide ((1024 : Int) ≤ (l.length : Int)) = false from decide_eq_false (by omega)], rfl⟩
  case rest =>
    obtain ⟨rfl, rfl⟩ := hcut
    clear hf d1 d2 d3 h1 h2 h3 C1
    go_wp2_with fail
    refine C2.out.mono ?_
    rintro e w2 ⟨rfl, hg, v2, hx, hfr⟩
    have HX2 := Lib.hid hx
    have HG2 := Lib.hid hg
    have HFR := Lib.hid hfr
    have HSZ := Lib.hid hg.size
    clear hx hg hfr c0 cf C2
    obtain ⟨a2, n2, rfl⟩ := HX2.out.ms.form
    obtain ⟨c0, cf⟩ := HX2.out.cells
    have hl2 : l2.length ≤ 1400 := HSL.out
    go_wp2_with fail
    go_loopw [7, 8, 9] (fun lv dn i wr => ∃ (k n : Nat) (ax : Option Addr) (cx : Nat), k ≤ l2.length ∧ i = .int .i64 k ∧ dn = .bool (insF key at_ (l2.take k)).2 ∧ lv = .slice ax n cx ∧ Hid (OwM wr w2.heap.size (.slice ax n cx) (insF key at_ (l2.take k)).1) ∧ Hid (Below w2.heap.size w2 wr)) (fun _ _ i _ => l2.length - (intOf i).toNat)
    case atStart => exact ⟨0, 0, none, 0, Nat.zero_le _, rfl, rfl, rfl, OwM_nil w2 _, Below.refl _ _⟩
    case round =>
      obtain ⟨k, nx, ax, cx, hk, rfl, rfl, rfl, HO, HB⟩ := hrel
      have HXr := Lib.hid (HX2.out.below HB.out)
      clear c0 cf
      obtain ⟨c0, cf⟩ := HXr.out.cells
      have hle := insF_len key at_ (l2.take k)
      rw [List.length_take] at hle
      by_cases hlt : k < l2.length
      · obtain ⟨b2, off, rfl, hB, p0, p1⟩ := HXr.out.ms.at hlt
        have hst := insF_step key at_ l2 k hlt
        obtain ⟨y, hy⟩ : ∃ y, l2.getD k zTm = y := ⟨_, rfl⟩
        rw [hy] at p0 p1 hst
        obtain ⟨st, hs0⟩ : ∃ st, insF key at_ (l2.take k) = st := ⟨_, rfl⟩
        rw [hs0] at hst HO hle ⊢
        obtain ⟨xs, dn⟩ := st
        have HST := Lib.hid hst
        have hXL : xs.length ≤ 2900 := by simp only at hle; omega
        have HXL := Lib.hid hXL
        simp only at HO
        obtain rfl : nx = xs.length := by obtain ⟨a9, c9, h9⟩ := HO.out.form; cases h9; rfl
        have HSW : Hid (w2.heap.size ≤ wr.heap.size) := HB.out.size
        obtain ⟨w3, hw3⟩ : ∃ w3, wr.alloc (.cells #[.int .i64 y.1, .int .i64 y.2] 32) = w3 := ⟨_, rfl⟩
        have hb3 : Below wr.heap.size wr w3 := hw3 ▸ (Below.refl _ wr).alloc (Nat.le_refl _) _
        have HV3 : Hid (C2 w3 wr.heap.size 0 y) := gc_two (hw3 ▸ gc_alloc RM wr y _ rfl 32)
        have HO3 := Lib.hid (HO.out.below hb3)
        have HB3 := Lib.hid (HB.out.trans (hb3.mono HB.out.size))
        have HG3 : Hid (wr.heap.size < w3.heap.size) := by show _ < _; rw [← hw3]; simp
        have HOG : Hid (∀ k', (Value.slice ax xs.length cx).ownBlock = some k' → k' < wr.heap.size) := fun k' hk' => (HO.out.lt k' hk').2
        clear hle hst hs0 hy hb3 hXL
        go_upto_region 12 with (fail)
        clear p0 p1
        obtain ⟨u0, u1⟩ := HV3.out
        simp only [Nat.zero_add] at u0 u1
        go_cut [71] from 52 to 72 (fun r wx => r = .bool (decide (dn = false ∧ later key at_ y)) ∧ w3 = wx)
        case first =>
          cases dn with
          | true =>
            have hz : decide (true = false ∧ later key at_ y) = false := by simp
            have HZ := Lib.hid hz
            clear hz
            go_wp2_with fail
            go_meet
            case rel => exact ⟨by rw [HZ.out], rfl⟩
          | false =>
            by_cases t1 : at_ < y.1
            · have q1 : decide (at_ < y.1) = true := decide_eq_true t1
              have hz : decide (false = false ∧ later key at_ y) = true := decide_eq_true ⟨rfl, .inl t1⟩
              have HZ := Lib.hid hz
              clear hz
              clear t1
              go_wp2_with fail
              go_meet
              case rel => exact ⟨by rw [HZ.out], rfl⟩
            · have q1 : decide (at_ < y.1) = false := decide_eq_false t1
              by_cases t2 : y.1 = at_
              · have q2 : (y.1 == at_) = true := by simpa using t2
                by_cases t3 : key < y.2
                · have q3 : decide (key < y.2) = true := decide_eq_true t3
                  have hz : decide (false = false ∧ later key at_ y) = true := decide_eq_true ⟨rfl, .inr ⟨t2, t3⟩⟩
                  have HZ := Lib.hid hz
                  clear hz
                  clear t1 t2 t3
                  go_wp2_with fail
                  go_meet
                  case rel => exact ⟨by rw [HZ.out], rfl⟩
                · have q3 : decide (key < y.2) = false := decide_eq_false t3
                  have hz : decide (false = false ∧ later key at_ y) = false := decide_eq_false (fun h => by rcases h.2 with h | h <;> omega)
                  have HZ := Lib.hid hz
                  clear hz
                  clear t1 t2 t3
                  go_wp2_with fail
                  go_meet
                  case rel => exact ⟨by rw [HZ.out], rfl⟩
              · have q2 : (y.1 == at_) = false := by simpa using t2
                have hz : decide (false = false ∧ later key at_ y) = false := decide_eq_false (fun h => by rcases h.2 with h | h <;> omega)
                have HZ := Lib.hid hz
                clear hz
                clear t1 t2
                go_wp2_with fail
                go_meet
                case rel => exact ⟨by rw [HZ.out], rfl⟩
        case rest =>
          obtain ⟨rfl, rfl⟩ := hcut
          by_cases hp : dn = false ∧ later key at_ y
          · have hz : decide (dn = false ∧ later key at_ y) = true := decide_eq_true hp
            have HP : Hid (insF key at_ (l2.take (k + 1)) = (xs ++ [(at_, key)] ++ [y], true)) := by
              rw [HST.out]
              show insS key at_ (xs, dn) y = _
              unfold insS
              rw [if_pos hp, List.append_assoc]
              rfl
            clear hp
            rw [hz]
            go_wp2_with (first | (at_builtin; refine mapp2_any rfl (.tmp 72) (.tmp 76) rfl rfl w3 (at_, key) rfl w2.heap.size (.slice ax xs.length cx) xs rfl rfl HO3.out (by have := HXL.out; omega) (Nat.le_trans HSW.out (Nat.le_of_lt HG3.out)) ?_; intro g4 c4 w4 ho4 hch4 _; have HO4 := Lib.hid ho4; have HCH4 := Lib.hid hch4; clear ho4 hch4; obtain ⟨u0, u1⟩ : w4.cell? ⟨wr.heap.size, 0, none⟩ = some (.int .i64 y.1) ∧ w4.cell? ⟨wr.heap.size, 1, none⟩ = some (.int .i64 y.2) := ⟨(HCH4.out.cell HG3.out (fun e => by have := HOG.out _ e; omega)).trans u0, (HCH4.out.cell HG3.out (fun e => by have := HOG.out _ e; omega)).trans u1⟩) | (at_builtin; refine mapp1_any rfl (.tmp 78) (.tmp 80) rfl w4 y rfl w2.heap.size (.slice (some ⟨g4, 0, none⟩) (xs.length + 1) c4) (xs ++ [(at_, key)]) rfl rfl HO4.out (by have := HXL.out; simp; omega) (Nat.le_trans (Nat.le_trans HSW.out (Nat.le_of_lt HG3.out)) HCH4.out.size) ?_; intro g5 c5 w5 ho5 hb5))
            go_roundw
            case rel =>
              have e9 : (xs ++ [(at_, key)]).length = xs.length + 1 := by simp
              rw [e9] at ho5
              refine ⟨k + 1, xs.length + 1 + 1, some ⟨g5, 0, none⟩, c5, by omega, by go_num, by rw [HP.out], rfl, ?_, HB3.out.trans (((chg_own HO3.out HCH4.out (Nat.le_trans HSW.out (Nat.le_of_lt HG3.out)))).trans hb5)⟩
              rw [HP.out]
              exact ho5
            case measure => simp [intOf]; omega
          · have hz : decide (dn = false ∧ later key at_ y) = false := decide_eq_false hp
            have HP : Hid (insF key at_ (l2.take (k + 1)) = (xs ++ [y], dn)) := by
              rw [HST.out]
              show insS key at_ (xs, dn) y = _
              unfold insS
              rw [if_neg hp]
            clear hp
            rw [hz]
            go_wp2_with (at_builtin; refine mapp1_any rfl (.tmp 78) (.tmp 80) rfl w3 y rfl w2.heap.size (.slice ax xs.length cx) xs rfl rfl HO3.out (by have := HXL.out; omega) (Nat.le_trans HSW.out (Nat.le_of_lt HG3.out)) ?_; intro g5 c5 w5 ho5 hb5)
            go_roundw
            case rel =>
              refine ⟨k + 1, _, _, _, by omega, by go_num, by rw [HP.out], rfl, ?_, HB3.out.trans hb5⟩
              rw [HP.out]
              exact ho5
            case measure => simp [intOf]; omega
      · obtain rfl : k = l2.length := by omega
        rw [List.take_length] at HO hle
        obtain ⟨st, hs0⟩ : ∃ st, insF key at_ l2 = st := ⟨_, rfl⟩
        have hins : insL l2 key at_ = if st.2 then st.1 else st.1 ++ [(at_, key)] := by unfold insL; rw [hs0]
        rw [List.take_length, hs0]
        rw [hs0] at HO hle
        obtain ⟨xs, dn⟩ := st
        have HINS := Lib.hid hins
        have hXL : xs.length ≤ 2900 := by simp only at hle; omega
        have HXL := Lib.hid hXL
        simp only at HO
        obtain rfl : nx = xs.length := by obtain ⟨a9, c9, h9⟩ := HO.out.form; cases h9; rfl
        have HSW : Hid (w2.heap.size ≤ wr.heap.size) := HB.out.size
        have HB2 : Hid (b < w2.heap.size) := HX2.out.lt
        clear hins hs0 hle hXL
        cases dn with
        | true =>
          have HRQ := Lib.hid (XW.set HXr.out HO.out.ms (fun a n c e => ⟨by have := (HO.out.apart a n c e).1; have := HB2.out; omega, (HO.out.apart a n c e).2⟩))
          have HCG : Hid (Chg (fun k => k = b) w (wr.setCell ⟨b, 0, none⟩ (.slice ax xs.length cx))) := Chg.setCell (F := fun k => k = b) (p := ⟨b, 0, none⟩) (HG2.out.trans (G := fun _ => False) (chg0 HB.out) (fun _ _ h => h.elim)) (.inl rfl) _
          go_wp2_with fail
          go_ret
          refine ⟨rfl, HCG.out, _, ?_, fun a n c e => Nat.le_trans HSZ.out (HO.out.apart a n c e).1⟩
          rw [HINS.out]
          exact HRQ.out
        | false =>
          go_wp2_with (at_builtin; refine mapp1_any rfl (.tmp 84) (.tmp 88) rfl wr (at_, key) rfl w2.heap.size (.slice ax xs.length cx) xs rfl rfl HO.out (by have := HXL.out; omega) HSW.out ?_; intro g5 c5 w5 ho5 hb5; have HO5 := Lib.hid ho5; have HB5 := Lib.hid (HB.out.trans hb5); have HX5 := Lib.hid (HX2.out.below HB5.out); clear ho5 hb5; obtain ⟨c0, cf⟩ := HX5.out.cells)
          have HRQ := Lib.hid (XW.set HX5.out HO5.out.ms (fun a n c e => ⟨by have := (HO5.out.apart a n c e).1; have := HB2.out; omega, (HO5.out.apart a n c e).2⟩))
          have HCG : Hid (Chg (fun k => k = b) w (w5.setCell ⟨b, 0, none⟩ (.slice (some ⟨g5, 0, none⟩) (xs.length + 1) c5))) := Chg.setCell (F := fun k => k = b) (p := ⟨b, 0, none⟩) (HG2.out.trans (G := fun _ => False) (chg0 HB5.out) (fun _ _ h => h.elim)) (.inl rfl) _
          go_wp2_with fail
          go_ret
          refine ⟨rfl, HCG.out, _, ?_, fun a n c e => Nat.le_trans HSZ.out (HO5.out.apart a n c e).1⟩
          rw [HINS.out]
          exact HRQ.out
set_option maxHeartbeats 8000000 in
theorem xStop_any (b : Nat) (v : Value) (l : List Tm) (key : Int) (w : World) (h : XW w b v l) (hl : l.length ≤ 2000) :
    Calls Try.prog 12 #[.pointer (some ⟨b, 0, none⟩), .int .i64 key] w fun e w' => e = .returned (.int .i64 (stopE l key)) ∧ Chg (fun k => k = b) w w' ∧ ∃ v', XW w' b v' (stopL l key) ∧ ∀ a n c, v' = .slice (some a) n c → w.heap.size ≤ a.block := by
  have C1 := Lib.hid (xstop_any b v l key w h hl)
  clear h
  have he : stopE l key = if issetL l key then 0 else 7 := rfl
  generalize stopE l key = er at *
  generalize issetL l key = q at *
  cases q with
  | true =>
    obtain rfl : er = 0 := he
    go_enter Try.func12, Try.ntmps12
    go_wp2_with fail
    refine C1.out.mono ?_
    rintro e w2 ⟨rfl, hr⟩
    have HR := Lib.hid hr
    clear hr
    go_wp2_with fail
    go_ret
    exact ⟨rfl, HR.out⟩
  | false =>
    obtain rfl : er = 7 := he
    go_enter Try.func12, Try.ntmps12
    go_wp2_with fail
    refine C1.out.mono ?_
    rintro e w2 ⟨rfl, hr⟩
    have HR := Lib.hid hr
    clear hr
    go_wp2_with fail
    go_ret
    exact ⟨rfl, HR.out⟩
end Go.Proofs.Ytmgipedpggpkoaa
