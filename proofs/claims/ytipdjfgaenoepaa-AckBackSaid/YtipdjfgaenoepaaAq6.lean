/- A row of acks read out of bytes: the program's Parse. No conditions. -/
import Derived.Test.YtipdjfgaenoepaaAq2
import Derived.Test.YtipdjfgaenoepaaAkd
import Derived.Test.YtipdjfgaenoepaaRdr
namespace Go.Proofs.Ytipdjfgaenoepaa
set_option maxRecDepth 100000
open Go.RowKit

/-! ### What the reader answers at its end -/
theorem Onl.then {b B : Nat} {w w1 w2 : World} (h : Onl b w w1) (h' : Below B w1 w2) (hB : w.heap.size ≤ B) : Onl b w w2 :=
  ⟨h'.os.trans h.os, h'.tape.trans h.tape, h'.output.trans h.output, Nat.le_trans h.size h'.size, fun k hk hb => (h'.block k (Nat.lt_of_lt_of_le hk hB)).trans (h.block k hk hb)⟩
set_option maxHeartbeats 4000000 in
theorem akdone_err (b : Nat) (a : Option Addr) (l c : Nat) (ok : Bool) (at' e0 e1 : Int) (w : World) (h : Rd w b at' e0) (hn : needE e0 ok = e1) (he : e1 ≠ 0) :
    Calls Try.prog 36 #[.pointer (some ⟨b, 0, none⟩), .slice a l c, .bool ok] w fun e w' => e = .returned (.tuple #[.slice none 0 0, .int .i64 0, .int .i64 e1]) ∧ Onl b w w' := by
  have hne : (e1 == 0) = false := by simpa using he
  have cN := need_any b ok at' e0 w h
  rw [hn] at cN
  clear h hn he
  go_enter Try.func36, Try.ntmps36
  go_wp2_with (go_at_call 46; refine cN.mono ?_; rintro e w1 ⟨rfl, hR, hO⟩; have HO := Lib.hid hO; clear hO; obtain ⟨z0, z1, zf⟩ := hR)
  go_region
  go_wp2_with fail
  go_ret3
  exact ⟨rfl, HO.out.then (Below.refl _ _).drew HO.out.size⟩
set_option maxHeartbeats 4000000 in
theorem akdone_ok (b : Nat) (a : Option Addr) (l c : Nat) (at' : Int) (w : World) (h : Rd w b at' 0) :
    Calls Try.prog 36 #[.pointer (some ⟨b, 0, none⟩), .slice a l c, .bool true] w fun e w' => e = .returned (.tuple #[.slice a l c, .int .i64 at', .int .i64 0]) ∧ Onl b w w' := by
  have cN := need_any b true at' 0 w h
  rw [show needE 0 true = 0 from rfl] at cN
  clear h
  go_enter Try.func36, Try.ntmps36
  go_wp2_with (go_at_call 46; refine cN.mono ?_; rintro e w1 ⟨rfl, hR, hO⟩; have HO := Lib.hid hO; clear hO; obtain ⟨z0, z1, zf⟩ := hR)
  go_region
  go_wp2_with fail
  go_ret3
  exact ⟨rfl, HO.out.then (Below.refl _ _).drew HO.out.size⟩

/-! ### What Parse answers -/
def stepA (xs : List Int) (r : List (Int × Int × Int × Int) × (Int × Int)) : List (Int × Int × Int × Int) × (Int × Int) :=
  (r.1 ++ [((numS xs 1 r.2).1, (numS xs 4 (numS xs 1 r.2).2).1, (numS xs 2 (numS xs 4 (numS xs 1 r.2).2).2).1, (numS xs 2 (numS xs 2 (numS xs 4 (numS xs 1 r.2).2).2).2).1)], (numS xs 2 (numS xs 2 (numS xs 4 (numS xs 1 r.2).2).2).2).2)
def itA (xs : List Int) : Nat → List (Int × Int × Int × Int) × (Int × Int) → List (Int × Int × Int × Int) × (Int × Int)
  | 0, r => r
  | n + 1, r => itA xs n (stepA xs r)
theorem itA_succ (xs : List Int) : ∀ (n : Nat) (r : List (Int × Int × Int × Int) × (Int × Int)), itA xs (n + 1) r = stepA xs (itA xs n r)
  | 0, _ => rfl
  | n + 1, r => by rw [itA, itA_succ xs n (stepA xs r), itA]
theorem itA_len (xs : List Int) : ∀ (n : Nat) (r : List (Int × Int × Int × Int) × (Int × Int)), (itA xs n r).1.length = r.1.length + n
  | 0, _ => rfl
  | n + 1, r => by rw [itA_succ, stepA]; simp [itA_len xs n r]; omega
theorem num_err {xs : List Int} {n p e : Int} (h : e ≠ 0) : numS xs n (p, e) = (0, (p, e)) := by simp [numS, h]
theorem num_ok (xs : List Int) (n p : Int) : numS xs n (p, 0) = getS xs p n := by simp [numS]
theorem itA_err {xs : List Int} {p e : Int} (h : e ≠ 0) : ∀ (n : Nat) (ys : List (Int × Int × Int × Int)), (itA xs n (ys, (p, e))).2 = (p, e)
  | 0, _ => rfl
  | n + 1, ys => by
    have h1 : stepA xs (ys, (p, e)) = (ys ++ [(0, 0, 0, 0)], (p, e)) := by simp only [stepA, num_err h]
    rw [itA, h1]
    exact itA_err h n _
theorem akP_it (xs : List Int) : ∀ (n : Nat) (p : Int) (acc : List (Int × Int × Int × Int)), akP xs n p acc = if (itA xs n (acc, (p, 0))).2.2 ≠ 0 then .inl (itA xs n (acc, (p, 0))).2.2 else .inr ((itA xs n (acc, (p, 0))).1, (itA xs n (acc, (p, 0))).2.1)
  | 0, p, acc => by simp [akP, itA]
  | n + 1, p, acc => by
    obtain ⟨a1, a2, a3, ha⟩ : ∃ x y z, getS xs p 1 = (x, y, z) := ⟨_, _, _, rfl⟩
    obtain ⟨b1, b2, b3, hb⟩ : ∃ x y z, getS xs a2 4 = (x, y, z) := ⟨_, _, _, rfl⟩
    obtain ⟨c1, c2, c3, hc⟩ : ∃ x y z, getS xs b2 2 = (x, y, z) := ⟨_, _, _, rfl⟩
    obtain ⟨d1, d2, d3, hd⟩ : ∃ x y z, getS xs c2 2 = (x, y, z) := ⟨_, _, _, rfl⟩
    have p1 : rdP xs p 1 = a2 := by show (getS xs p 1).2.1 = a2; rw [ha]
    have p2 : rdP xs p 2 = b2 := by show (getS xs (rdP xs p 1) 4).2.1 = b2; rw [p1, hb]
    have p3 : rdP xs p 3 = c2 := by show (getS xs (rdP xs p 2) 2).2.1 = c2; rw [p2, hc]
    have p4 : rdP xs p 4 = d2 := by show (getS xs (rdP xs p 3) 2).2.1 = d2; rw [p3, hd]
    have v0 : rdV xs p 0 = a1 := by show (getS xs p 1).1 = a1; rw [ha]
    have v1 : rdV xs p 1 = b1 := by show (getS xs (rdP xs p 1) 4).1 = b1; rw [p1, hb]
    have v2 : rdV xs p 2 = c1 := by show (getS xs (rdP xs p 2) 2).1 = c1; rw [p2, hc]
    have v3 : rdV xs p 3 = d1 := by show (getS xs (rdP xs p 3) 2).1 = d1; rw [p3, hd]
    have e0 : rdE xs p 0 = a3 := by show (getS xs p 1).2.2 = a3; rw [ha]
    have e1 : rdE xs p 1 = b3 := by show (getS xs (rdP xs p 1) 4).2.2 = b3; rw [p1, hb]
    have e2 : rdE xs p 2 = c3 := by show (getS xs (rdP xs p 2) 2).2.2 = c3; rw [p2, hc]
    have e3 : rdE xs p 3 = d3 := by show (getS xs (rdP xs p 3) 2).2.2 = d3; rw [p3, hd]
    rw [akP, itA, e0, e1, e2, e3, p4, v0, v1, v2, v3]
    by_cases h0 : a3 = 0
    · subst h0
      rw [if_neg (by simp)]
      by_cases h1 : b3 = 0
      · subst h1
        rw [if_neg (by simp)]
        by_cases h2 : c3 = 0
        · subst h2
          rw [if_neg (by simp)]
          have hs : stepA xs (acc, (p, 0)) = (acc ++ [(a1, b1, c1, d1)], (d2, d3)) := by simp only [stepA, num_ok, ha, hb, hc, hd]
          rw [hs]
          by_cases h3 : d3 = 0
          · subst h3
            rw [if_neg (by simp)]
            exact akP_it xs n d2 _
          · rw [if_pos h3, itA_err h3, if_pos h3]
        · have hs : stepA xs (acc, (p, 0)) = (acc ++ [(a1, b1, c1, 0)], (c2, c3)) := by simp only [stepA, num_ok, ha, hb, hc, num_err h2]
          rw [if_pos h2, hs, itA_err h2, if_pos h2]
      · have hs : stepA xs (acc, (p, 0)) = (acc ++ [(a1, b1, 0, 0)], (b2, b3)) := by simp only [stepA, num_ok, ha, hb, num_err h1]
        rw [if_pos h1, hs, itA_err h1, if_pos h1]
    · have hs : stepA xs (acc, (p, 0)) = (acc ++ [(a1, 0, 0, 0)], (a2, a3)) := by simp only [stepA, num_ok, ha, num_err h0]
      rw [if_pos h0, hs, itA_err h0, if_pos h0]
/-- What comes of what was read. -/
def finA (r : List (Int × Int × Int × Int) × (Int × Int)) : Int ⊕ (List (Int × Int × Int × Int) × Int) := if r.2.2 ≠ 0 then .inl r.2.2 else if AksOk r.1 then .inr (r.1, r.2.1) else .inl 4
theorem acPF_it (xs : List Int) (k : Int) : acPF xs k = finA (itA xs (numS xs 1 (k, 0)).1.toNat ([], (numS xs 1 (k, 0)).2)) := by
  obtain ⟨g1, g2, g3, hg⟩ : ∃ x y z, getS xs k 1 = (x, y, z) := ⟨_, _, _, rfl⟩
  unfold acPF finA
  simp only [num_ok, hg]
  by_cases h : g3 = 0
  · subst h
    rw [if_neg (by simp), akP_it]
    generalize itA xs g1.toNat ([], (g2, 0)) = r
    obtain ⟨ys, q, e⟩ := r
    simp only
    by_cases h3 : e = 0
    · subst h3; rfl
    · simp [h3]
  · rw [if_pos h, itA_err h, if_pos h]
theorem num1_bd {xs : List Int} (hx : ∀ x ∈ xs, 0 ≤ x ∧ x < 256) (u : Int × Int) : 0 ≤ (numS xs 1 u).1 ∧ (numS xs 1 u).1 ≤ 255 := by
  unfold numS
  split
  · exact getS_byte hx u.1
  · simp
theorem own_onl {w w' : World} {b S size n : Nat} {e : TypeId} {v : Value} {xs : List Value} (h : w.ownsRow S e size v n xs) (ho : Onl b w w') (hb : b < S) : w'.ownsRow S e size v n xs := by
  refine ⟨h.1, ?_⟩
  rcases h.2 with h2 | ⟨g, cap, cur, rfl, h3, hg, rest⟩
  · exact .inl h2
  · refine .inr ⟨g, cap, cur, rfl, h3, ?_, rest⟩
    rw [ho.block g (Array.getElem?_eq_some_iff.1 hg).1 (by omega)]; exact hg
theorem Rd.low {w w' : World} {b S : Nat} {x y : Int} (h : Rd w b x y) (hb : b < S) (hB : Below S w w') : Rd w' b x y :=
  ⟨(hB.cell (p := ⟨b, 0, none⟩) hb).trans h.1, (hB.cell (p := ⟨b, 1, none⟩) hb).trans h.2.1, fun j => (hB.frozen (p := ⟨b, j, none⟩) hb).trans (h.2.2 j)⟩
theorem aapp1_any {ops : Array Oper} {rest : List Oper} {o : Oper} {a : Act} {Q : Exit → Act → World → Prop} {W : World} (hgd : o.guard = none) (s x : Operand)
    (ho : o.op = .call { callee := .builtin .append, args := #[s, x], argTypes := #[22, 22] }) (w : World) (r0 r1 r2 r3 : Int) (hW : W = w.alloc (.cells #[.int .i64 r0, .int .i64 r1, .int .i64 r2, .int .i64 r3] 30)) (S : Nat) (v : Value) (xs : List (Int × Int × Int × Int))
    (hs : a.eval s = v) (hx : a.eval x = .slice (some ⟨w.heap.size, 0, none⟩) 1 1) (hown : w.ownsRow S 30 4 v xs.length (aflat xs)) (hl : xs.length ≤ 3000) (hS : S ≤ w.heap.size)
    (h : ∀ g cap w', w'.ownsRow S 30 4 (.slice (some ⟨g, 0, none⟩) (xs.length + 1) cap) (xs ++ [(r0, r1, r2, r3)]).length (aflat (xs ++ [(r0, r1, r2, r3)])) → Below S w w' → wpList Try.prog ops Q rest (a.put o.dst (.slice (some ⟨g, 0, none⟩) (xs.length + 1) cap)) w') : wpList Try.prog ops Q (o :: rest) a W :=
  gapp1_any (R := RA) hgd s x ho w (r0, r1, r2, r3) 30 hW S v xs hs hx hown hl hS h
#print axioms acPF_it
end Go.Proofs.Ytipdjfgaenoepaa
