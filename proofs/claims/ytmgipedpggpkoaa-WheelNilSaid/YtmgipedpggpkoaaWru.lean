/- The reference's wheel: Next, Due; two rows of timers that are the same. No conditions but on lengths. -/
import Derived.Test.YtmgipedpggpkoaaWrt
import Derived.Laws.StructEq
import Derived.ChangeKeysEq
namespace Go.Proofs.Ytmgipedpggpkoaa
set_option maxRecDepth 100000
open Go.RowKit

theorem infoI : (Try.prog.info? 3).map (fun i => (i.zero, i.size, i.bytes)) = some (some (.int .i64 0), 1, 8) := by kernel_rfl
theorem underIS : Try.prog.underlying 37 = some (.slice 3) := by kernel_rfl
theorem cellsI : Try.prog.cellsOf 3 = 1 := by kernel_rfl
noncomputable def RI : RowT where
  α := Int
  d := 0
  cl := fun x => [.int .i64 x]
  K := 1
  T := 3
  SL := 37
  zero := .int .i64 0
  bytes := 8
  hcl := fun _ => rfl
  hK := by decide
  hone := fun y u hu => by
    simp only [List.mem_cons, List.not_mem_nil, or_false] at hu
    rcases hu with rfl
    rfl
  hSL := underIS
  hinfo := infoI
  hz := rfl
  hb := by decide
  hc := cellsI
def OwI (w : World) (S : Nat) (v : Value) (l : List Int) : Prop := w.ownsRow S RI.T RI.K v l.length (gflat RI l)
theorem OwI_nil (w : World) (S : Nat) : OwI w S (.slice none 0 0) [] := gown_nil (R := RI) w S
theorem OwI.below {w w' : World} {S : Nat} {v : Value} {l : List Int} (h : OwI w S v l) (hb : Below w.heap.size w w') : OwI w' S v l := gown_below h hb
theorem OwI.mono {w : World} {S S' : Nat} {v : Value} {l : List Int} (h : OwI w S v l) (hS : S' ≤ S) : OwI w S' v l := gown_mono h hS
theorem OwI.form {w : World} {S : Nat} {v : Value} {l : List Int} (h : OwI w S v l) : ∃ a c, v = .slice a l.length c := gown_form h
theorem OwI.chg {F : Nat → Prop} {w w' : World} {S : Nat} {v : Value} {l : List Int} (h : OwI w S v l) (hc : Chg F w w') (hn : ∀ k, v.ownBlock = some k → ¬ F k) : OwI w' S v l := by
  refine ⟨h.1, ?_⟩
  rcases h.2 with h2 | ⟨g, cap, cur, rfl, h3, hg, rest⟩
  · exact .inl h2
  · exact .inr ⟨g, cap, cur, rfl, h3, (hc.block g (Array.getElem?_eq_some_iff.1 hg).1 (hn g rfl)).trans hg, rest⟩
theorem OwI.zs {w : World} {S : Nat} {v : Value} {l : List Int} (h : OwI w S v l) (hl : l.length ≤ 4000) : Zs w v l := by
  refine ⟨by omega, ?_⟩
  rcases (Gs_of_own (R := RI) h).1 with ⟨a, cap, h1, h2, h3⟩ | ⟨b, off, cap, h1, h2, h3, h4⟩
  · exact .inl ⟨a, cap, h1, h2, h3⟩
  · refine .inr ⟨b, off, cap, h1, h2, fun i hi => ?_⟩
    have h5 := h4 i hi 0 (show 0 < 1 by decide)
    have e : off + i * RI.K + 0 = off + i := by show off + i * 1 + 0 = off + i; omega
    rw [e] at h5
    exact h5
theorem iapp1_any {ops : Array Oper} {rest : List Oper} {o : Oper} {a : Act} {Q : Exit → Act → World → Prop} {W : World} (hgd : o.guard = none) (s x : Operand)
    (ho : o.op = .call { callee := .builtin .append, args := #[s, x], argTypes := #[37, 37] }) (w : World) (y : Int) (hW : W = w.alloc (.cells #[.int .i64 y] 3)) (S : Nat) (v : Value) (xs : List Int)
    (hs : a.eval s = v) (hx : a.eval x = .slice (some ⟨w.heap.size, 0, none⟩) 1 1) (hown : OwI w S v xs) (hl : xs.length ≤ 3000) (hS : S ≤ w.heap.size)
    (h : ∀ g cap w', OwI w' S (.slice (some ⟨g, 0, none⟩) (xs.length + 1) cap) (xs ++ [y]) → Below S w w' → wpList Try.prog ops Q rest (a.put o.dst (.slice (some ⟨g, 0, none⟩) (xs.length + 1) cap)) w') : wpList Try.prog ops Q (o :: rest) a W :=
  gapp1_any (R := RI) hgd s x ho w y 3 hW S v xs hs hx hown hl hS h
/-- The time of the first one, and whether there is one. -/
def nextV (l : List Tm) : Int := (l.headD zTm).1
def nextB (l : List Tm) : Bool := !l.isEmpty
/-- Those that are due, by their keys; those that are not. -/
def dueK (l : List Tm) (now : Int) : List Int := (l.takeWhile (fun y => decide (y.1 ≤ now))).map (·.2)
def dueL (l : List Tm) (now : Int) : List Tm := l.dropWhile (fun y => decide (y.1 ≤ now))
theorem due_at {l : List Tm} {now : Int} {k : Nat} (hk : k ≤ l.length) (h : ∀ i, i < k → (l.getD i zTm).1 ≤ now) (he : k < l.length → ¬ (l.getD k zTm).1 ≤ now) : dueK l now = (l.take k).map (·.2) ∧ dueL l now = l.drop k := by
  induction k generalizing l with
  | zero =>
    cases l with
    | nil => exact ⟨rfl, rfl⟩
    | cons y r =>
      have hy : decide (y.1 ≤ now) = false := decide_eq_false (by simpa using he (by simp))
      unfold dueK dueL
      rw [List.takeWhile_cons_of_neg (by simp [hy]), List.dropWhile_cons_of_neg (by simp [hy])]
      exact ⟨rfl, rfl⟩
  | succ k ih =>
    cases l with
    | nil => simp at hk
    | cons y r =>
      have hy : decide (y.1 ≤ now) = true := decide_eq_true (by simpa using h 0 (by omega))
      obtain ⟨h1, h2⟩ := ih (l := r) (by simpa using hk) (fun i hi => by simpa using h (i + 1) (by omega)) (fun h3 => by simpa using he (by simpa using h3))
      unfold dueK dueL at *
      rw [List.takeWhile_cons_of_pos (p := fun y : Tm => decide (y.1 ≤ now)) hy, List.dropWhile_cons_of_pos (p := fun y : Tm => decide (y.1 ≤ now)) hy, List.map_cons, h1, h2]
      exact ⟨rfl, rfl⟩
theorem tm_drop {l : List Tm} {k : Nat} (h : k < l.length) : l.drop k = l.getD k zTm :: l.drop (k + 1) := by
  rw [List.drop_eq_getElem_cons h]
  simp [List.getD, h]
set_option maxHeartbeats 8000000 in
theorem xNext_any (b : Nat) (v : Value) (l : List Tm) (w : World) (h : XW w b v l) (hl : l.length ≤ 2000) :
    Calls Try.prog 17 #[.pointer (some ⟨b, 0, none⟩)] w fun e w' => e = .returned (.tuple #[.int .i64 (nextV l), .bool (nextB l)]) ∧ w = w' := by
  obtain ⟨a, c, rfl⟩ := h.ms.form
  obtain ⟨c0, cf⟩ := h.cells
  have HK : Hid (Ms w (.slice a l.length c) l) := h.ms
  clear h
  cases l with
  | nil =>
    go_enter Try.func17, Try.ntmps17
    go_wp2_with fail
    exact bodyPost_ret (v := .tuple #[.int .i64 0, .bool false]) (by simp [results, Try.results17, go_sem]) rfl ⟨rfl, rfl⟩
  | cons y r =>
    obtain ⟨b2, off, rfl, hB, p0, p1⟩ := HK.out.at (i := 0) (by simp)
    simp only [List.getD_cons_zero, Nat.zero_mul, Nat.add_zero] at p0 p1
    go_enter Try.func17, Try.ntmps17
    go_wp2_with fail
    exact bodyPost_ret (v := .tuple #[.int .i64 y.1, .bool true]) (by simp [results, Try.results17, go_sem]) rfl ⟨rfl, rfl⟩
/-! ### '!=' of timers -/
theorem m_cell {P : Program} {w : World} {d : Nat} {xs ys : Array Value} {f : Field} {fs : List Field} {x y : Value} {T : TypeId} {off : Nat} {e : Bool}
    (h : (f.name == "_", f.type, f.offset) = (false, T, off)) (ha : (isAgg T).run P w = .ok false w) (hx : xs[off]? = some x) (hy : ys[off]? = some y) (he : (Op.equalIn d T x y).run P w = .ok e w) :
    (Op.eqFields d xs ys (f :: fs)).run P w = if e then (Op.eqFields d xs ys fs).run P w else .ok false w := by
  simp only [Prod.mk.injEq, beq_eq_false_iff_ne] at h
  obtain ⟨h1, h2, h3⟩ := h
  have p : ∀ (zs : Array Value) (z : Value), zs[off]? = some z → (part T zs off).run P w = .ok z w := by
    intro zs z hz
    simp only [part, Sem.run_bind, ha, Result.andThen_ok, Bool.false_eq_true, if_false, hz, Sem.run_pure]
  simp only [Op.eqFields, h2, h3]
  rw [if_pos h1]
  simp only [Sem.run_bind, p xs x hx, p ys y hy, he, Result.andThen_ok, Sem.run_ite, Sem.run_pure]
  cases e <;> simp
theorem fieldsTM : ((Try.prog.fieldsOf 32).toList.map fun f => (f.name == "_", f.type, f.offset)) = [(false, 3, 0), (false, 3, 1)] := by kernel_rfl
theorem underTM : Try.prog.underlying 32 = some (.struct (Try.prog.fieldsOf 32)) := by kernel_rfl
def eqM (a b a' b' : Int) : Bool := a == a' && b == b'
theorem eqM_iff {a b a' b' : Int} : eqM a b a' b' = true ↔ (a, b) = (a', b') := by simp [eqM]
theorem run_eqTM (a b a' b' : Int) (w : World) :
    (Op.equalIn 10000 32 (.agg #[.int .i64 a, .int .i64 b]) (.agg #[.int .i64 a', .int .i64 b'])).run Try.prog w = .ok (eqM a b a' b') w := by
  rw [run_equalIn_agg w 9999 32 _ _ underTM (by kernel_rfl)]
  have hf := fieldsTM
  generalize (Try.prog.fieldsOf 32).toList = fs at *
  have a3 : (isAgg 3).run Try.prog w = .ok false w := by kernel_rfl
  obtain ⟨f0, _, rfl, g0, hf⟩ := List.map_eq_cons_iff.1 hf
  obtain ⟨f1, _, rfl, g1, hf⟩ := List.map_eq_cons_iff.1 hf
  obtain rfl := List.map_eq_nil_iff.1 hf
  rw [m_cell g0 a3 rfl rfl (run_equalIn_int w 9998 3 .i64 .i64 a a' (by kernel_rfl)), m_cell g1 a3 rfl rfl (run_equalIn_int w 9998 3 .i64 .i64 b b' (by kernel_rfl))]
  simp only [Op.eqFields, Sem.run_pure, eqM]
  cases a == a' <;> cases b == b' <;> rfl
theorem guardTM (op : BinOp) (x y : Operand) (xs ys : Array Value) (w : World) : (eqGuard op 32 x y (.agg xs) (.agg ys)).run Try.prog w = .ok () w :=
  run_eqGuard_agg w op 32 x y xs ys (by kernel_rfl)
theorem neqTM (a b a' b' : Int) (w : World) : (binOp .neq 32 (.agg #[.int .i64 a, .int .i64 b]) (.agg #[.int .i64 a', .int .i64 b'])).run Try.prog w = .ok (.bool (!eqM a b a' b')) w := by
  rw [run_neq_struct, run_eqTM]; rfl
theorem mrow_ext {l l' : List Tm} (hn : l.length = l'.length) (h : ∀ i, i < l.length → l.getD i zTm = l'.getD i zTm) : l = l' := by
  refine List.ext_getElem hn fun i h1 h2 => ?_
  have := h i h1
  simpa [List.getD, h1, h2] using this
set_option maxHeartbeats 8000000 in
/-- The reference's Same of timers. -/
theorem xsame_any (v u : Value) (ys zs : List Tm) (w : World) (hy : Ms w v ys) (hz : Ms w u zs) (hl : ys.length ≤ 3000) :
    Calls Try.prog 18 #[v, u] w fun e w' => (∃ b : Bool, e = .returned (.bool b) ∧ (b = true ↔ ys = zs)) ∧ Below w.heap.size w w' := by
  obtain ⟨a, c, rfl⟩ := hy.form
  obtain ⟨a', c', rfl⟩ := hz.form
  have HY := Lib.hid hy
  have HZ := Lib.hid hz
  clear hy hz
  by_cases hne : ys.length = zs.length
  · have hL : ((ys.length : Int) != (zs.length : Int)) = false := by rw [hne]; simp
    have HN := Lib.hid hne
    clear hne
    go_enter Try.func18, Try.ntmps18
    go_wp2_with fail
    go_loopw [5] (fun i wr => ∃ k : Nat, k ≤ ys.length ∧ i = .int .i64 k ∧ (∀ i, i < k → ys.getD i zTm = zs.getD i zTm) ∧ Below w.heap.size w wr) (fun i _ => ys.length - (intOf i).toNat)
    case atStart => exact ⟨0, Nat.zero_le _, rfl, fun i h => absurd h (Nat.not_lt_zero _), Below.refl _ _⟩
    case round =>
      obtain ⟨k, hk, rfl, hsame, hbel⟩ := hrel
      have HS := Lib.hid hsame
      have HW := Lib.hid hbel
      clear hsame hbel
      by_cases hlt : k < ys.length
      · obtain ⟨b, off, rfl, hB, p0, p1⟩ := (HY.out.below HW.out).at hlt
        have hlt2 : k < zs.length := by have := HN.out; omega
        obtain ⟨b2, off2, rfl, hB2, q0, q1⟩ := (HZ.out.below HW.out).at hlt2
        obtain ⟨⟨y1, y2⟩, hyk⟩ : ∃ y, ys.getD k zTm = y := ⟨_, rfl⟩
        obtain ⟨⟨z1, z2⟩, hzk⟩ : ∃ z, zs.getD k zTm = z := ⟨_, rfl⟩
        rw [hyk] at p0 p1
        rw [hzk] at q0 q1
        simp only at p0 p1 q0 q1
        have HK := Lib.hid hyk
        have HK2 := Lib.hid hzk
        clear hyk hzk
        have E1 := guardTM
        have E2 := neqTM
        obtain ⟨q, hq⟩ : ∃ q, eqM y1 y2 z1 z2 = q := ⟨_, rfl⟩
        have HQ : Hid (q = true ↔ (y1, y2) = (z1, z2)) := by rw [← hq]; exact eqM_iff
        go_wp2_with fail
        go_region
        cases q with
        | true =>
          go_wp2_with fail
          go_roundw
          case rel =>
            refine ⟨k + 1, by omega, by go_num, ?_, HW.out.drew⟩
            intro j hj
            by_cases h : j < k
            · exact HS.out j h
            · obtain rfl : j = k := by omega
              rw [HK.out, HK2.out]; exact HQ.out.1 rfl
          case measure => simp [intOf]; omega
        | false =>
          go_wp2_with fail
          go_ret
          refine ⟨⟨false, rfl, ⟨(fun h => by cases h), fun h => ?_⟩⟩, HW.out.drew⟩
          subst h
          have := HQ.out.2 (HK.out.symm.trans HK2.out)
          cases this
      · obtain rfl : k = ys.length := by omega
        go_wp2_with fail
        go_ret
        exact ⟨⟨true, rfl, ⟨fun _ => mrow_ext HN.out HS.out, fun _ => rfl⟩⟩, HW.out⟩
  · have hL : ((ys.length : Int) != (zs.length : Int)) = true := by simpa using fun h : (ys.length : Int) = zs.length => hne (Int.ofNat.inj h)
    go_enter Try.func18, Try.ntmps18
    go_wp2_with fail
    go_ret
    exact ⟨⟨false, rfl, ⟨(fun h => by cases h), fun h => absurd (congrArg List.length h) hne⟩⟩, Below.refl _ _⟩
def sliceLen : Value → Nat
  | .slice _ n _ => n
  | _ => 0
theorem ms_tail {w : World} {b off c o' : Nat} {y : Tm} {r : List Tm} (h : Ms w (.slice (some ⟨b, off, none⟩) (y :: r).length c) (y :: r)) (ho : 1 < (y :: r).length → o' = off + 2) : Ms w (.slice (some ⟨b, o', none⟩) r.length (c - 1)) r := by
  obtain ⟨h2, h3, h4⟩ := h.opn (by simp)
  cases r with
  | nil => exact .inl ⟨some ⟨b, o', none⟩, c - 1, rfl, (fun h => by cases h), rfl⟩
  | cons z r =>
    obtain rfl := ho (by simp)
    refine Ms.mk rfl (by simp at h2 ⊢; omega) h3 fun i hi => ?_
    have := h4 (i + 1) (by simp at hi ⊢; omega)
    rw [List.getD_cons_succ] at this
    rw [show off + 2 + i * 2 = off + (i + 1) * 2 by omega]
    exact this
set_option maxHeartbeats 16000000 in
theorem xDue_any (b : Nat) (v : Value) (l : List Tm) (now : Int) (w : World) (h : XW w b v l) (hl : l.length ≤ 2000) :
    Calls Try.prog 15 #[.pointer (some ⟨b, 0, none⟩), .int .i64 now] w fun e w' => (∃ a c, e = .returned (.slice a (dueK l now).length c) ∧ OwI w' w.heap.size (.slice a (dueK l now).length c) (dueK l now)) ∧ Chg (fun k => k = b) w w' ∧ ∃ v', XW w' b v' (dueL l now) ∧ ∀ a n c, v' = .slice (some a) n c → a.block < w.heap.size ∧ ∃ a' n' c', v = .slice (some a') n' c' ∧ a'.block = a.block := by
  have HBW := Lib.hid h.lt
  have HX := Lib.hid h
  obtain ⟨c0, cf⟩ := h.cells
  clear h
  go_enter Try.func15, Try.ntmps15
  go_wp2_with fail
  go_loopw [5] (fun lv wr => ∃ (k : Nat) (ax : Option Addr) (cx : Nat) (v' : Value), k ≤ l.length ∧ lv = .slice ax k cx ∧ Hid (OwI wr w.heap.size (.slice ax k cx) ((l.take k).map (·.2))) ∧ Hid (XW wr b v' (l.drop k)) ∧ Hid (∀ i, i < k → (l.getD i zTm).1 ≤ now) ∧ Hid (Chg (fun k => k = b) w wr) ∧ Hid (∀ a n c, v' = .slice (some a) n c → a.block < w.heap.size ∧ ∃ a' n' c', v = .slice (some a') n' c' ∧ a'.block = a.block)) (fun lv _ => l.length - sliceLen lv)
  case atStart => exact ⟨0, none, 0, v, Nat.zero_le _, rfl, OwI_nil w _, HX.out, fun i h => absurd h (Nat.not_lt_zero _), Chg.refl _ _, fun a n c e => ⟨(HX.out.ap a n c e).2, a, n, c, e, rfl⟩⟩
  case round =>
    obtain ⟨k, ax, cx, v', hk, rfl, HO, HXr, HNO, HG, HAP⟩ := hrel
    clear c0 cf
    obtain ⟨av, cv, hv⟩ := HXr.out.ms.form
    subst hv
    obtain ⟨c0, cf⟩ := HXr.out.cells
    by_cases hlt : k < l.length
    · obtain ⟨y, hy⟩ : ∃ y, l.getD k zTm = y := ⟨_, rfl⟩
      have hdr := tm_drop hlt
      obtain ⟨r, hr⟩ : ∃ r, l.drop (k + 1) = r := ⟨_, rfl⟩
      rw [hy, hr] at hdr
      have hrl : r.length = l.length - (k + 1) := by rw [← hr, List.length_drop]
      have htk := tm_take l k hlt
      rw [hy] at htk
      have HTK := Lib.hid htk
      have HR := Lib.hid hr
      have HRL := Lib.hid hrl
      have HY := Lib.hid hy
      have HDR := Lib.hid hdr
      have hlen : (l.take k).length = k := by rw [List.length_take]; omega
      have HLEN := Lib.hid hlen
      have hdl : (l.drop k).length = r.length + 1 := by rw [hdr]; rfl
      rw [hdr] at HXr HAP
      rw [hdl] at c0
      obtain ⟨b2, off, hav, hB, p0, p1⟩ := HXr.out.ms.at (i := 0) (by simp)
      subst hav
      simp only [List.getD_cons_zero, Nat.zero_mul, Nat.add_zero] at p0 p1
      have hcv : r.length + 1 ≤ cv := by have := (HXr.out.ms.opn (by simp)).1; simpa using this
      by_cases hd : y.1 ≤ now
      · have q1 : decide (y.1 ≤ now) = true := decide_eq_true hd
        have HD := Lib.hid hd
        obtain ⟨o', ho', ho2⟩ : ∃ o', (if cv = 1 then (some ⟨b2, off, none⟩ : Option Addr) else some ⟨b2, off + 2, none⟩) = some ⟨b2, o', none⟩ ∧ (1 < (y :: r).length → o' = off + 2) := by
          by_cases hc : cv = 1
          · exact ⟨off, by rw [if_pos hc], fun h => by simp at h; omega⟩
          · exact ⟨off + 2, by rw [if_neg hc], fun _ => rfl⟩
        have HO2 := Lib.hid ho2
        have hcv1 : 1 ≤ cv := by omega
        have hr63 : r.length ≤ 2000 := by omega
        have HSW : Hid (w.heap.size ≤ wr.heap.size) := HG.out.size
        have HXL : Hid (((l.take k).map (·.2)).length ≤ 3000) := by show _ ≤ _; rw [List.length_map, hlen]; omega
        have HML : Hid (((l.take k).map (·.2)).length = k) := by show _ = _; rw [List.length_map, hlen]
        clear hd hdr hr hrl htk hy hlen hdl ho2
        go_wp2_with (at_builtin; refine iapp1_any rfl (.tmp 23) (.tmp 31) rfl wr y.2 rfl w.heap.size (.slice ax k cx) ((l.take k).map (·.2)) rfl rfl (by have := HO.out; exact this) HXL.out HSW.out ?_; intro g cap w4 ho9 hb9; rw [HML.out]; rw [HML.out] at ho9; have HO4 := Lib.hid ho9; have HB4 := Lib.hid hb9; have HX4 := Lib.hid (HXr.out.chg (chg_of hb9) (fun hB => Nat.lt_irrefl _ (Nat.lt_of_lt_of_le HBW.out hB)) (fun a n c e hB => Nat.lt_irrefl _ (Nat.lt_of_lt_of_le (HAP.out a n c e).1 hB))); clear ho9 hb9 c0 p0 p1; obtain ⟨c0, cf⟩ := HX4.out.cells)
        have HRQ := Lib.hid (XW.set HX4.out (ms_tail HX4.out.ms HO2.out) (fun a n c e => by cases e; exact HX4.out.ap ⟨b2, off, none⟩ _ _ rfl))
        have HG4 : Hid (Chg (fun k => k = b) w (w4.setCell ⟨b, 0, none⟩ (.slice (some ⟨b2, o', none⟩) r.length (cv - 1)))) := Chg.setCell (F := fun k => k = b) (p := ⟨b, 0, none⟩) (HG.out.trans (chg_of HB4.out) (fun x hx hs => absurd hs (by omega))) (.inl rfl) _
        have HO5 : Hid (OwI (w4.setCell ⟨b, 0, none⟩ (.slice (some ⟨b2, o', none⟩) r.length (cv - 1))) w.heap.size (.slice (some ⟨g, 0, none⟩) (k + 1) cap) ((l.take k).map (·.2) ++ [y.2])) := HO4.out.chg (F := fun k => k = b) (Chg.setCell (F := fun k => k = b) (p := ⟨b, 0, none⟩) (Chg.refl _ w4) (.inl rfl) _) (fun k' hk' e => by have := (HO4.out.lt k' hk').1; have := HBW.out; omega)
        go_wp2_with fail
        go_roundw
        case rel =>
          refine ⟨k + 1, some ⟨g, 0, none⟩, cap, .slice (some ⟨b2, o', none⟩) r.length (cv - 1), by omega, rfl, ?_, ?_, fun i hi => ?_, HG4.out, fun a n c e => by cases e; exact HAP.out ⟨b2, off, none⟩ _ _ rfl⟩
          · rw [HTK.out, List.map_append]
            exact HO5.out
          · rw [HR.out]
            exact HRQ.out
          · by_cases e : i = k
            · subst e
              rw [HY.out]
              exact HD.out
            · exact HNO.out i (by omega)
        case measure => simp [sliceLen]; omega
      · have q1 : decide (y.1 ≤ now) = false := decide_eq_false hd
        have HD := Lib.hid hd
        have HXR := Lib.hid HXr.out
        clear hd
        have HE := Lib.hid (due_at (l := l) (now := now) (k := k) (by omega) HNO.out (fun _ => by rw [HY.out]; exact HD.out))
        have HLN : Hid ((dueK l now).length = k) := by show _ = _; rw [HE.out.1, List.length_map, List.length_take]; omega
        go_wp2_with fail
        go_ret
        rw [HLN.out, HE.out.1, HE.out.2]
        rw [HDR.out]
        exact ⟨⟨_, _, rfl, HO.out⟩, HG.out, _, HXR.out, fun a n c e => by obtain ⟨h1, a', n', c', h2, h3⟩ := HAP.out a n c e; first | exact ⟨h1, a', ⟨n', c', h2⟩, h3⟩ | exact ⟨h1, a', n', c', h2, h3⟩⟩
    · obtain rfl : k = l.length := by omega
      have hdl : l.drop l.length = [] := List.drop_length
      rw [hdl] at HXr HAP c0
      simp only [List.length_nil] at c0
      have HE := Lib.hid (due_at (l := l) (now := now) (k := l.length) (by omega) HNO.out (fun h => absurd h (Nat.lt_irrefl _)))
      have HLN : Hid ((dueK l now).length = l.length) := by show _ = _; rw [HE.out.1, List.length_map, List.length_take]; omega
      go_wp2_with fail
      go_ret
      rw [HLN.out, HE.out.1, HE.out.2]
      rw [hdl]
      exact ⟨⟨_, _, rfl, HO.out⟩, HG.out, _, HXr.out, fun a n c e => by obtain ⟨h1, a', n', c', h2, h3⟩ := HAP.out a n c e; first | exact ⟨h1, a', ⟨n', c', h2⟩, h3⟩ | exact ⟨h1, a', n', c', h2, h3⟩⟩
end Go.Proofs.Ytmgipedpggpkoaa
