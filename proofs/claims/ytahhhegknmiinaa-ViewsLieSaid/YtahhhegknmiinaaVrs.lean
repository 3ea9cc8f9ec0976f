/- The reference's views: Set, Drop. No conditions but on lengths. -/
import Derived.Test.YtahhhegknmiinaaVrg
namespace Go.Proofs.Ytahhhegknmiinaa
set_option maxRecDepth 100000
open Go.RowKit

theorem vapp1_any {ops : Array Oper} {rest : List Oper} {o : Oper} {a : Act} {Q : Exit → Act → World → Prop} {W : World} (hgd : o.guard = none) (s x : Operand)
    (ho : o.op = .call { callee := .builtin .append, args := #[s, x], argTypes := #[22, 22] }) (w : World) (y : Vw) (hW : W = w.alloc (.cells #[.int .i64 y.1, .bool y.2.1, .int .i64 y.2.2.1, .int .i64 y.2.2.2.1, .int .i64 y.2.2.2.2.1, .int .i64 y.2.2.2.2.2.1, .int .i64 y.2.2.2.2.2.2] 40)) (S : Nat) (v : Value) (xs : List Vw)
    (hs : a.eval s = v) (hx : a.eval x = .slice (some ⟨w.heap.size, 0, none⟩) 1 1) (hown : OwV w S v xs) (hl : xs.length ≤ 3000) (hS : S ≤ w.heap.size)
    (h : ∀ g cap w', OwV w' S (.slice (some ⟨g, 0, none⟩) (xs.length + 1) cap) (xs ++ [y]) → Below S w w' → wpList Try.prog ops Q rest (a.put o.dst (.slice (some ⟨g, 0, none⟩) (xs.length + 1) cap)) w') : wpList Try.prog ops Q (o :: rest) a W :=
  gapp1_any (R := RV) hgd s x ho w y 40 hW S v xs hs hx hown hl hS h
/-- One more of l, where a view of id is being set. -/
def st1 (id : Int) (h : Hx) (acc : List Vw × Bool) (y : Vw) : List Vw × Bool := if acc.2 = false ∧ id ≤ y.1 then (acc.1 ++ [(id, h)], true) else acc
def st2 (id : Int) (acc : List Vw × Bool) (y : Vw) : List Vw × Bool := if y.1 = id then acc else (acc.1 ++ [y], acc.2)
def stS (id : Int) (h : Hx) (acc : List Vw × Bool) (y : Vw) : List Vw × Bool := st2 id (st1 id h acc y) y
def rawF (id : Int) (h : Hx) (r : List Vw × Bool) : List Vw := if r.2 = true then r.1 else r.1 ++ [(id, h)]
def rawS (id : Int) (h : Hx) (l : List Vw) : List Vw := rawF id h (l.foldl (stS id h) ([], false))
def setE (l : List Vw) (id : Int) (h : Hx) : Int := if VOk l ∧ VOk (rawS id h l) then 0 else 1
def setL (l : List Vw) (id : Int) (h : Hx) : List Vw := if VOk l ∧ VOk (rawS id h l) then rawS id h l else []
theorem st1_len (id : Int) (h : Hx) (acc : List Vw × Bool) (y : Vw) (n : Nat) (hn : acc.1.length ≤ n + acc.2.toNat) : (st1 id h acc y).1.length ≤ n + (st1 id h acc y).2.toNat := by
  unfold st1
  by_cases h1 : acc.2 = false ∧ id ≤ y.1
  · rw [if_pos h1, List.length_append]
    rw [h1.1] at hn
    simp only [Bool.toNat_false, Nat.add_zero] at hn
    simp only [List.length_cons, List.length_nil, Bool.toNat_true]
    omega
  · rw [if_neg h1]
    exact hn
theorem st2_len (id : Int) (acc : List Vw × Bool) (y : Vw) (n : Nat) (hn : acc.1.length ≤ n + acc.2.toNat) : (st2 id acc y).1.length ≤ n + 1 + (st2 id acc y).2.toNat := by
  unfold st2
  by_cases h2 : y.1 = id
  · rw [if_pos h2]; omega
  · rw [if_neg h2, List.length_append]
    simp only [List.length_cons, List.length_nil]
    omega
theorem fold_len (id : Int) (h : Hx) (l : List Vw) (acc : List Vw × Bool) (n : Nat) (hn : acc.1.length ≤ n + acc.2.toNat) : (l.foldl (stS id h) acc).1.length ≤ n + l.length + (l.foldl (stS id h) acc).2.toNat := by
  induction l generalizing acc n with
  | nil => exact hn
  | cons y r ih =>
    have := ih (stS id h acc y) (n + 1) (st2_len id _ y n (st1_len id h acc y n hn))
    rw [List.foldl_cons, List.length_cons]
    omega
theorem raw_len (id : Int) (h : Hx) (l : List Vw) : (rawS id h l).length ≤ l.length + 1 := by
  have h1 := fold_len id h l ([], false) 0 (Nat.zero_le _)
  unfold rawS rawF
  cases h2 : (l.foldl (stS id h) ([], false)).2 with
  | true =>
    rw [if_pos rfl]
    rw [h2] at h1
    simp only [Bool.toNat_true] at h1
    omega
  | false =>
    rw [if_neg (by simp), List.length_append]
    rw [h2] at h1
    simp only [Bool.toNat_false] at h1
    simp only [List.length_cons, List.length_nil]
    omega
set_option maxHeartbeats 4000000 in
theorem rvset_any (v : Value) (l : List Vw) (id : Int) (h : Hx) (w : World) (hv : Vs w v l) (hl : l.length ≤ 1000) :
    Calls Try.prog 13 #[v, .int .i64 id, hxV h] w fun e w' => (∃ a c, e = .returned (.tuple #[.slice a (setL l id h).length c, .int .i64 (setE l id h)]) ∧ OwV w' w.heap.size (.slice a (setL l id h).length c) (setL l id h)) ∧ Below w.heap.size w w' := by
  obtain ⟨a, c, rfl⟩ := hv.form
  obtain ⟨w1, hw1⟩ : ∃ w1, w.alloc (.cells #[.bool h.1, .int .i64 h.2.1, .int .i64 h.2.2.1, .int .i64 h.2.2.2.1, .int .i64 h.2.2.2.2.1, .int .i64 h.2.2.2.2.2] 24) = w1 := ⟨_, rfl⟩
  have hb0 : Below w.heap.size w w1 := hw1 ▸ (Below.refl _ w).alloc (Nat.le_refl _) _
  have OV := Lib.hid (hw1 ▸ own6_alloc w h.1 h.2.1 h.2.2.1 h.2.2.2.1 h.2.2.2.2.1 h.2.2.2.2.2 24 w.heap.size rfl : Own6 w1 w.heap.size h.1 h.2.1 h.2.2.1 h.2.2.2.1 h.2.2.2.2.1 h.2.2.2.2.2)
  have HV := Lib.hid (hv.below hb0)
  have HB0 := Lib.hid hb0
  clear hv hb0
  go_enter Try.func13, Try.ntmps13
  go_upto_region 1 with (fail)
  clear hw1
  go_wp2_with fail
  go_loopw [8, 9, 10] (fun lv dv i wr => ∃ (k : Nat) (ax : Option Addr) (cx : Nat) (xs : List Vw) (dn : Bool), k ≤ l.length ∧ i = .int .i64 k ∧ lv = .slice ax xs.length cx ∧ dv = .bool dn ∧ Hid ((l.take k).foldl (stS id h) ([], false) = (xs, dn)) ∧ Hid (OwV wr w1.heap.size (.slice ax xs.length cx) xs) ∧ Hid (Below w1.heap.size w1 wr)) (fun _ _ i _ => l.length - (intOf i).toNat)
  case atStart => exact ⟨0, none, 0, [], false, Nat.zero_le _, rfl, rfl, rfl, rfl, OwV_nil w1 _, Below.refl _ _⟩
  case round =>
    obtain ⟨k, ax, cx, xs, dn, hk, rfl, rfl, rfl, HF, HO, HB⟩ := hrel
    have hxl : xs.length ≤ 1000 + 1 := by
      have h1 := fold_len id h (l.take k) ([], false) 0 (Nat.zero_le _)
      rw [HF.out, List.length_take] at h1
      have h2 : dn.toNat ≤ 1 := Bool.toNat_le dn
      simp only at h1
      omega
    have HSW : Hid (w1.heap.size ≤ wr.heap.size) := HB.out.size
    have OW := Lib.hid (OV.out.below HB.out)
    obtain ⟨⟨u0, u1, u2, u3, u4, u5⟩, uf⟩ := OW.out
    by_cases hlt : k < l.length
    · obtain ⟨b2, off, rfl, hB, p0, p1, p2, p3, p4, p5, p6⟩ := (HV.out.below HB.out).at hlt
      have hst : (l.take (k + 1)).foldl (stS id h) ([], false) = stS id h (xs, dn) (l.getD k zVw) := by
        rw [vtake_succ l k hlt, List.foldl_append, HF.out]
        rfl
      obtain ⟨y, hy⟩ : ∃ y, l.getD k zVw = y := ⟨_, rfl⟩
      rw [hy] at p0 p1 p2 p3 p4 p5 p6 hst
      have HY := Lib.hid hy
      have HST0 := Lib.hid hst
      clear hy hst
      cases dn with
      | true =>
        by_cases he : y.1 = id
        · have q1 : (y.1 != id) = false := by simpa using he
          have HST : Hid ((l.take (k + 1)).foldl (stS id h) ([], false) = (xs, true)) := by
            show _ = _
            rw [HST0.out]
            simp [stS, st1, st2, he]
          clear he
          go_wp2_with fail
          go_roundw
          case rel => exact ⟨k + 1, ax, cx, xs, true, by omega, by go_num, rfl, rfl, HST.out, HO.out, HB.out⟩
          case measure => simp [intOf]; omega
        · have q1 : (y.1 != id) = true := by simpa using he
          have HST : Hid ((l.take (k + 1)).foldl (stS id h) ([], false) = (xs ++ [y], true)) := by
            show _ = _
            rw [HST0.out]
            simp [stS, st1, st2, he]
          clear he
          have HLE2 : Hid (xs.length ≤ 3000) := by show _ ≤ _; omega
          go_wp2_with (at_builtin; refine vapp1_any rfl (.tmp 41) (.tmp 46) rfl wr y rfl w1.heap.size (.slice ax xs.length cx) xs rfl rfl HO.out HLE2.out HSW.out ?_; intro g2 cap2 wb ho9 hb9; have HO2 := Lib.hid ho9; have HA2 := Lib.hid hb9; clear ho9 hb9)
          go_roundw
          case rel => exact ⟨k + 1, some ⟨g2, 0, none⟩, cap2, xs ++ [y], true, by omega, by go_num, by simp only [List.length_append]; rfl, rfl, HST.out, by have h9 := HO2.out; rw [List.length_append]; exact h9, HB.out.trans HA2.out⟩
          case measure => simp [intOf]; omega
      | false =>
        by_cases hge : id ≤ y.1
        · have q0 : decide (id ≤ y.1) = true := decide_eq_true hge
          by_cases he : y.1 = id
          · have q1 : (y.1 != id) = false := by simpa using he
            have HST : Hid ((l.take (k + 1)).foldl (stS id h) ([], false) = (xs ++ [(id, h)], true)) := by
              show _ = _
              rw [HST0.out]
              simp [stS, st1, st2, he]
            clear he hge
            have HLE1 : Hid (xs.length ≤ 3000) := by show _ ≤ _; omega
            go_upto_region 9 with (at_builtin; refine vapp1_any rfl (.tmp 28) (.tmp 32) rfl wr (id, h) rfl w1.heap.size (.slice ax xs.length cx) xs rfl rfl HO.out HLE1.out HSW.out ?_; intro g1 cap1 wa ho9 hb9; have HO1 := Lib.hid ho9; have HA1 := Lib.hid hb9; clear ho9 hb9)
            clear p0 p1 p2 p3 p4 p5 p6
            have HV2 := Lib.hid (HV.out.below (HB.out.trans HA1.out))
            obtain ⟨hB2, p0, p1, p2, p3, p4, p5, p6⟩ := HV2.out.all hlt
            rw [HY.out] at p0 p1 p2 p3 p4 p5 p6
            have HB2 := Lib.hid (HB.out.trans HA1.out)
            have HSW2 : Hid (w1.heap.size ≤ wa.heap.size) := HB2.out.size
            go_wp2_with fail
            go_roundw
            case rel => exact ⟨k + 1, (some ⟨g1, 0, none⟩), cap1, (xs ++ [(id, h)]), true, by omega, by go_num, by rw [List.length_append]; rfl, rfl, HST.out, by rw [List.length_append]; exact HO1.out, HB2.out⟩
            case measure => simp [intOf]; omega
          · have q1 : (y.1 != id) = true := by simpa using he
            have HST : Hid ((l.take (k + 1)).foldl (stS id h) ([], false) = (xs ++ [(id, h)] ++ [y], true)) := by
              show _ = _
              rw [HST0.out]
              simp [stS, st1, st2, he, hge]
            clear he hge
            have HLE1 : Hid (xs.length ≤ 3000) := by show _ ≤ _; omega
            go_upto_region 9 with (at_builtin; refine vapp1_any rfl (.tmp 28) (.tmp 32) rfl wr (id, h) rfl w1.heap.size (.slice ax xs.length cx) xs rfl rfl HO.out HLE1.out HSW.out ?_; intro g1 cap1 wa ho9 hb9; have HO1 := Lib.hid ho9; have HA1 := Lib.hid hb9; clear ho9 hb9)
            clear p0 p1 p2 p3 p4 p5 p6
            have HV2 := Lib.hid (HV.out.below (HB.out.trans HA1.out))
            obtain ⟨hB2, p0, p1, p2, p3, p4, p5, p6⟩ := HV2.out.all hlt
            rw [HY.out] at p0 p1 p2 p3 p4 p5 p6
            have HB2 := Lib.hid (HB.out.trans HA1.out)
            have HSW2 : Hid (w1.heap.size ≤ wa.heap.size) := HB2.out.size
            have HLE2 : Hid ((xs ++ [(id, h)]).length ≤ 3000) := by show _ ≤ _; rw [List.length_append]; simp only [List.length_cons, List.length_nil]; omega
            rw [show xs.length + 1 = (xs ++ [(id, h)]).length by rw [List.length_append]; rfl] at HO1 ⊢
            go_wp2_with (at_builtin; refine vapp1_any rfl (.tmp 41) (.tmp 46) rfl wa y rfl w1.heap.size (.slice (some ⟨g1, 0, none⟩) (xs ++ [(id, h)]).length cap1) (xs ++ [(id, h)]) rfl rfl HO1.out HLE2.out HSW2.out ?_; intro g2 cap2 wb ho9 hb9; have HO2 := Lib.hid ho9; have HA2 := Lib.hid hb9; clear ho9 hb9)
            go_roundw
            case rel => exact ⟨k + 1, some ⟨g2, 0, none⟩, cap2, (xs ++ [(id, h)]) ++ [y], true, by omega, by go_num, by simp only [List.length_append]; rfl, rfl, HST.out, by have h9 := HO2.out; rw [List.length_append]; exact h9, HB2.out.trans HA2.out⟩
            case measure => simp [intOf]; omega
        · have q0 : decide (id ≤ y.1) = false := decide_eq_false hge
          have q1 : (y.1 != id) = true := by simpa using (show y.1 ≠ id by omega)
          have HST : Hid ((l.take (k + 1)).foldl (stS id h) ([], false) = (xs ++ [y], false)) := by
            show _ = _
            rw [HST0.out]
            simp [stS, st1, st2, hge, show y.1 ≠ id by omega]
          clear hge
          have HLE2 : Hid (xs.length ≤ 3000) := by show _ ≤ _; omega
          go_wp2_with (at_builtin; refine vapp1_any rfl (.tmp 41) (.tmp 46) rfl wr y rfl w1.heap.size (.slice ax xs.length cx) xs rfl rfl HO.out HLE2.out HSW.out ?_; intro g2 cap2 wb ho9 hb9; have HO2 := Lib.hid ho9; have HA2 := Lib.hid hb9; clear ho9 hb9)
          go_roundw
          case rel => exact ⟨k + 1, some ⟨g2, 0, none⟩, cap2, xs ++ [y], false, by omega, by go_num, by simp only [List.length_append]; rfl, rfl, HST.out, by have h9 := HO2.out; rw [List.length_append]; exact h9, HB.out.trans HA2.out⟩
          case measure => simp [intOf]; omega
    · obtain rfl : k = l.length := by omega
      rw [List.take_length] at HF
      obtain ⟨R, hR⟩ : ∃ R, rawS id h l = R := ⟨_, rfl⟩
      have hRe : R = if dn = true then xs else xs ++ [(id, h)] := by
        rw [← hR]
        unfold rawS rawF
        rw [HF.out]
      have HR := Lib.hid hR
      have hrl : R.length ≤ 1001 := by have := raw_len id h l; rw [hR] at this; omega
      have HRL := Lib.hid hrl
      have fin : ∀ (e : Int) (xs' : List Vw), (e = 1 ∧ xs' = [] ∧ ¬ (VOk l ∧ VOk R)) ∨ (e = 0 ∧ xs' = R ∧ VOk l ∧ VOk R) → Hid (setE l id h = e ∧ setL l id h = xs') := fun e xs' h => by
        show _ ∧ _
        unfold setE setL
        rw [hR]
        rcases h with ⟨rfl, rfl, h⟩ | ⟨rfl, rfl, h1, h2⟩
        · rw [if_neg h, if_neg h]; exact ⟨rfl, rfl⟩
        · rw [if_pos ⟨h1, h2⟩, if_pos ⟨h1, h2⟩]; exact ⟨rfl, rfl⟩
      have FIN := Lib.hid fin
      clear fin hR hrl
      cases dn with
      | true =>
        obtain rfl : R = xs := hRe
        go_upto_region 13 with (fail)
        have HBX := Lib.hid HB.out
        have C1 := Lib.hid (rvright_any (.slice a l.length c) l wr (HV.out.below HBX.out) (by omega))
        by_cases hok : VOk l
        · rw [decide_eq_true hok] at C1
          go_wp2_with fail
          refine C1.out.mono ?_
          rintro e w5 ⟨rfl, hb5⟩
          have HOX := Lib.hid (HO.out.below hb5)
          have HB5 := Lib.hid (HBX.out.trans (hb5.mono HBX.out.size))
          have C2 := Lib.hid (rvright_any (.slice ax R.length cx) R w5 HOX.out.vs (by have h9 := HRL.out; exact Nat.le_trans h9 (by decide)))
          clear hb5 C1
          by_cases hrk : VOk R
          · rw [decide_eq_true hrk] at C2
            have F := FIN.out 0 R (.inr ⟨rfl, rfl, hok, hrk⟩)
            clear hok hrk
            go_wp2_with (go_at_call 17; refine C2.out.mono ?_; rintro e w6 ⟨rfl, hb6⟩; have HO6 := Lib.hid ((HOX.out.below hb6).mono HB0.out.size); have HB6 := Lib.hid (HB0.out.trans ((HB5.out.trans (hb6.mono HB5.out.size)).mono HB0.out.size)); clear hb6 C2)
            exact bodyPost_ret (v := .tuple #[.slice ax R.length cx, .int .i64 0]) (by simp [results, Try.results13, go_sem]) rfl ⟨by rw [F.out.1, F.out.2]; exact ⟨_, _, rfl, HO6.out⟩, HB6.out⟩
          · rw [decide_eq_false hrk] at C2
            have F := FIN.out 1 [] (.inl ⟨rfl, rfl, fun h => hrk h.2⟩)
            clear hok hrk
            go_wp2_with (go_at_call 17; refine C2.out.mono ?_; rintro e w6 ⟨rfl, hb6⟩; have HB6 := Lib.hid (HB0.out.trans ((HB5.out.trans (hb6.mono HB5.out.size)).mono HB0.out.size)); clear hb6 C2)
            exact bodyPost_ret (v := .tuple #[.slice none 0 0, .int .i64 1]) (by simp [results, Try.results13, go_sem]) rfl ⟨by rw [F.out.1, F.out.2]; exact ⟨none, 0, rfl, OwV_nil _ _⟩, HB6.out⟩
        · rw [decide_eq_false hok] at C1
          have F := FIN.out 1 [] (.inl ⟨rfl, rfl, fun h => hok h.1⟩)
          clear hok
          go_wp2_with fail
          refine C1.out.mono ?_
          rintro e w5 ⟨rfl, hb5⟩
          have HB5 := Lib.hid (HB0.out.trans ((HBX.out.trans (hb5.mono HBX.out.size)).mono HB0.out.size))
          clear hb5 C1
          go_wp2_with fail
          exact bodyPost_ret (v := .tuple #[.slice none 0 0, .int .i64 1]) (by simp [results, Try.results13, go_sem]) rfl ⟨by rw [F.out.1, F.out.2]; exact ⟨none, 0, rfl, OwV_nil _ _⟩, HB5.out⟩
      | false =>
        replace hRe : R = xs ++ [(id, h)] := hRe
        have HLE1 : Hid (xs.length ≤ 3000) := by show _ ≤ _; omega
        go_upto_region 13 with (at_builtin; refine vapp1_any rfl (.tmp 50) (.tmp 54) rfl wr (id, h) rfl w1.heap.size (.slice ax xs.length cx) xs rfl rfl HO.out HLE1.out HSW.out ?_; intro g1 cap1 wa ho9 hb9; have HO1 := Lib.hid ho9; have HA1 := Lib.hid hb9; clear ho9 hb9)
        rw [show xs.length + 1 = R.length by rw [hRe, List.length_append]; rfl] at HO1 ⊢
        rw [← hRe] at HO1
        clear hRe
        have HBX := Lib.hid (HB.out.trans HA1.out)
        have C1 := Lib.hid (rvright_any (.slice a l.length c) l wa (HV.out.below HBX.out) (by omega))
        by_cases hok : VOk l
        · rw [decide_eq_true hok] at C1
          go_wp2_with fail
          refine C1.out.mono ?_
          rintro e w5 ⟨rfl, hb5⟩
          have HOX := Lib.hid (HO1.out.below hb5)
          have HB5 := Lib.hid (HBX.out.trans (hb5.mono HBX.out.size))
          have C2 := Lib.hid (rvright_any (.slice (some ⟨g1, 0, none⟩) R.length cap1) R w5 HOX.out.vs (by have h9 := HRL.out; exact Nat.le_trans h9 (by decide)))
          clear hb5 C1
          by_cases hrk : VOk R
          · rw [decide_eq_true hrk] at C2
            have F := FIN.out 0 R (.inr ⟨rfl, rfl, hok, hrk⟩)
            clear hok hrk
            go_wp2_with (go_at_call 17; refine C2.out.mono ?_; rintro e w6 ⟨rfl, hb6⟩; have HO6 := Lib.hid ((HOX.out.below hb6).mono HB0.out.size); have HB6 := Lib.hid (HB0.out.trans ((HB5.out.trans (hb6.mono HB5.out.size)).mono HB0.out.size)); clear hb6 C2)
            exact bodyPost_ret (v := .tuple #[.slice (some ⟨g1, 0, none⟩) R.length cap1, .int .i64 0]) (by simp [results, Try.results13, go_sem]) rfl ⟨by rw [F.out.1, F.out.2]; exact ⟨_, _, rfl, HO6.out⟩, HB6.out⟩
          · rw [decide_eq_false hrk] at C2
            have F := FIN.out 1 [] (.inl ⟨rfl, rfl, fun h => hrk h.2⟩)
            clear hok hrk
            go_wp2_with (go_at_call 17; refine C2.out.mono ?_; rintro e w6 ⟨rfl, hb6⟩; have HB6 := Lib.hid (HB0.out.trans ((HB5.out.trans (hb6.mono HB5.out.size)).mono HB0.out.size)); clear hb6 C2)
            exact bodyPost_ret (v := .tuple #[.slice none 0 0, .int .i64 1]) (by simp [results, Try.results13, go_sem]) rfl ⟨by rw [F.out.1, F.out.2]; exact ⟨none, 0, rfl, OwV_nil _ _⟩, HB6.out⟩
        · rw [decide_eq_false hok] at C1
          have F := FIN.out 1 [] (.inl ⟨rfl, rfl, fun h => hok h.1⟩)
          clear hok
          go_wp2_with fail
          refine C1.out.mono ?_
          rintro e w5 ⟨rfl, hb5⟩
          have HB5 := Lib.hid (HB0.out.trans ((HBX.out.trans (hb5.mono HBX.out.size)).mono HB0.out.size))
          clear hb5 C1
          go_wp2_with fail
          exact bodyPost_ret (v := .tuple #[.slice none 0 0, .int .i64 1]) (by simp [results, Try.results13, go_sem]) rfl ⟨by rw [F.out.1, F.out.2]; exact ⟨none, 0, rfl, OwV_nil _ _⟩, HB5.out⟩
end Go.Proofs.Ytahhhegknmiinaa
