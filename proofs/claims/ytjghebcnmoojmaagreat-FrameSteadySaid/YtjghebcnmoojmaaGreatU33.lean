/- What each function answers of a beacon, in one form; the document's example. No conditions but on lengths. Mathematics of a beacon's bytes: what has bytes is parsed as itself; what is parsed has these bytes. No conditions beyond those of the theorems. Mathematics of acks' bytes: what has bytes is parsed as itself; what is parsed has these bytes. No conditions beyond those of the theorems. Frames as data: their parts, their bytes, what is read of bytes. No conditions beyond those of the theorems. Parts and frames in memory: rows of parts, variables of a part and of a frame. No conditions. Frames out of bytes: what has bytes is read as itself, what is read has these bytes; a byte that is another one. No conditions beyond those of the theorems. -/
import Derived.Test.YtjghebcnmoojmaaGreatU31
import Derived.Test.YtjghebcnmoojmaaGreatU32
namespace Go.Proofs.YtjghebcnmoojmaaGreat
set_option maxRecDepth 100000
open Go.RowKit

def WiOk (M : Int) (ys : List (Int × Int)) (id ep : Int) : Prop := BeOk M ys ∧ BeOk M (winF ys id ep)
instance (M : Int) (ys : List (Int × Int)) (id ep : Int) : Decidable (WiOk M ys id ep) := by unfold WiOk; infer_instance
def byL (M : Int) (ys : List (Int × Int)) : List Int := if BeOk M ys then beB M ys else []
def byK (M : Int) (ys : List (Int × Int)) : Int := if BeOk M ys then 0 else 1
theorem beB_len (M : Int) (ys : List (Int × Int)) : (beB M ys).length = 5 + 5 * ys.length := by
 unfold beB
 simp only [List.length_append, lo_len, List.length_cons, List.length_nil, ecB_flat_len]
theorem beB_byt {M : Int} {ys : List (Int × Int)} (h : BeOk M ys) : ∀ x ∈ beB M ys, 0 ≤ x ∧ x < 256 := by
 intro x hx
 unfold beB at hx
 rw [List.mem_append, List.mem_append] at hx
 rcases hx with (hx | hx) | hx
 ·exact lo_byt x hx
 ·have := h.len
  rw [List.mem_singleton] at hx
  omega
 ·obtain ⟨l, hl, hx⟩ := List.mem_flatten.1 hx
  obtain ⟨y, hy, rfl⟩ := List.mem_map.1 hl
  unfold ecB at hx
  rcases List.mem_cons.1 hx with rfl | hx
  ·have := ((beok_iff.1 h).2.1 y hy).1
   omega
  ·exact lo_byt x hx
theorem eparse_ok {xs : List Int} {k : Int} (h : (eparseS xs k).e = 0) : BeOk (eparseS xs k).M (eparseS xs k).ys := by
 unfold eparseS eparseF at *
 split
 ·rename_i h1
  rw [if_pos h1] at h
  split
  ·rename_i h2; exact h2
  ·rename_i h2; rw [if_neg h2] at h; cases h
 ·rename_i h1; rw [if_neg h1] at h; exact absurd h h1
def RetP6 (w : World) (M : Int) (L : List (Int × Int)) (T K : Int) (e : Ending) (w' : World) : Prop :=
 ∃ a c, e = .returned (.tuple #[.agg #[.int .i64 M, .slice a L.length c], .int .i64 T, .int .i64 K]) ∧ OwE w' w.heap.size (.slice a L.length c) L ∧ Below w.heap.size w w'
theorem parse_fix6 (v : Value) (xs : List Int) (k : Int) (w : World) (hv : Bs w v xs) : Calls Tryz.prog 91 #[v, .int .i64 k] w (RetP6 w (eparseS xs k).M (eparseS xs k).ys (eparseS xs k).to (eparseS xs k).e) :=
 (eparse_any v k xs w hv).mono fun e w' ⟨r, h1, h2, h3⟩ => by
  obtain ⟨a, c, rfl⟩ := h2.form
  exact ⟨a, c, h1, h2, h3⟩
end Go.Proofs.YtjghebcnmoojmaaGreat

namespace Go.Proofs.YtjghebcnmoojmaaGreat
set_option maxRecDepth 100000

theorem num_fwd (f m : List Int) (v : Int) (n K : Nat) (hK : K = f.length) (h1 : 1 ≤ n) (h7 : n ≤ 7) (hv : 0 ≤ v ∧ v < pow256 n) : numS (f ++ (lo v n ++ m)) (n : Int) ((K : Int), 0) = (v, (K : Int) + (n : Int), 0) := by
 subst hK
 have hp : PutOk v (n : Int) := ⟨by omega, by omega, hv.1, by simpa using hv.2⟩
 have := back_get f m hp
 have hB : putB v (n : Int) = lo v n := by unfold putB; rw [if_pos hp]; simp
 rw [hB] at this
 rw [numS_ok]
 exact this
theorem num_inv {xs : List Int} (hx : ∀ x ∈ xs, 0 ≤ x ∧ x < 256) {n K : Nat} {e v s : Int} (h : numS xs (n : Int) ((K : Int), e) = (v, s, 0)) :
  e = 0 ∧ K + n ≤ xs.length ∧ s = ((K + n : Nat) : Int) ∧ lo v n = (xs.drop K).take n := by
 unfold numS at h
 simp only at h
 by_cases he : e = 0
 ·rw [if_pos he] at h
  unfold getS at h
  split at h
  ·simp at h
  ·rename_i hn
   split at h
   ·simp at h
   ·rename_i hl
    simp only [Prod.mk.injEq] at h
    obtain ⟨rfl, rfl, _⟩ := h
    have hlen : K + n ≤ xs.length := by omega
    refine ⟨he, hlen, by omega, ?_⟩
    unfold segN
    simp only [Int.toNat_natCast]
    have hl2 : ((xs.drop K).take n).length = n := by simp; omega
    have := lo_be ((xs.drop K).take n) (fun x hx' => hx x (List.drop_subset _ _ (List.take_subset _ _ hx')))
    rw [hl2] at this
    exact this
 ·rw [if_neg he] at h
  simp only [Prod.mk.injEq] at h
  exact absurd h.2.2 he
theorem num_no {xs : List Int} {n p e v s : Int} (he : e ≠ 0) (h : numS xs n (p, e) = (v, s, 0)) : False := by
 rw [numS_err he] at h
 simp only [Prod.mk.injEq] at h
 exact he h.2.2
theorem lo_one {v : Int} (h : 0 ≤ v ∧ v ≤ 255) : lo v 1 = [v] := by
 unfold lo
 simp
 omega
theorem it_inv {xs : List Int} (hx : ∀ x ∈ xs, 0 ≤ x ∧ x < 256) : ∀ (n : Nat) (ys : List (Int × Int)) (K : Nat) (e : Int), K ≤ xs.length → (itE xs n (ys, ((K : Int), e))).2.2 = 0 →
  e = 0 ∧ K + 5 * n ≤ xs.length ∧ ∃ zs, itE xs n (ys, ((K : Int), e)) = (ys ++ zs, (((K + 5 * n : Nat) : Int), 0)) ∧ zs.length = n ∧ (zs.map ecB).flatten = (xs.drop K).take (5 * n)
 | 0, ys, K, e, hK, h => by
  have he : e = 0 := h
  subst he
  exact ⟨rfl, by omega, [], by simp [itE], rfl, by simp⟩
 | n + 1, ys, K, e, hK, h => by
  obtain ⟨y1, s1, e1, h1⟩ : ∃ x y z, numS xs 1 ((K : Int), e) = (x, y, z) := ⟨_, _, _, rfl⟩
  obtain ⟨y2, s2, e2, h2⟩ : ∃ x y z, numS xs 4 (s1, e1) = (x, y, z) := ⟨_, _, _, rfl⟩
  have hs : stepE xs (ys, ((K : Int), e)) = (ys ++ [(y1, y2)], (s2, e2)) := by simp only [stepE, h1, h2]
  rw [itE, hs] at h ⊢
  by_cases he2 : e2 = 0
  ·subst he2
   by_cases he1 : e1 = 0
   ·subst he1
    obtain ⟨i1, i2, i3, i4⟩ := num_inv hx (n := 1) h1
    subst i3
    obtain ⟨_, j2, j3, j4⟩ := num_inv hx (n := 4) h2
    subst j3
    obtain ⟨_, k2, zs, k3, k4, k5⟩ := it_inv hx n (ys ++ [(y1, y2)]) (K + 1 + 4) 0 (by omega) h
    refine ⟨i1, by omega, (y1, y2) :: zs, ?_, by simp [k4], ?_⟩
    ·rw [k3]
     simp only [List.append_assoc, List.singleton_append, Prod.mk.injEq, true_and, and_true]
     omega
    ·have hy : y1 ∈ xs ∧ [y1] = (xs.drop K).take 1 := by
      have hd : (xs.drop K).take 1 = [xs[K]] := by
       rw [List.drop_eq_getElem_cons (by omega)]; rfl
      have hb := hx xs[K] (List.getElem_mem (by omega))
      have hv : y1 = xs[K] := by
       have hg := h1
       rw [i1, numS_ok] at hg
       unfold getS at hg
       rw [if_neg (by omega), if_neg (by omega)] at hg
       simp only [Prod.mk.injEq] at hg
       rw [← hg.1]
       unfold segN
       simp only [Int.toNat_natCast]
       rw [show (1 : Int).toNat = 1 from rfl, hd]
       simp [be]
      rw [hd, hv]
      exact ⟨List.getElem_mem _, rfl⟩
     rw [List.map_cons, List.flatten_cons, k5, ecB, show 5 * (n + 1) = 1 + (4 + 5 * n) by omega, List.take_add, List.drop_drop, List.take_add, List.drop_drop, ← j4, ← hy.2]
     rfl
   ·exact (num_no he1 h2).elim
  ·rw [itE_err he2] at h
   exact absurd h he2
theorem eparse_inv {xs : List Int} (hx : ∀ x ∈ xs, 0 ≤ x ∧ x < 256) {PM T E : Int} {PY : List (Int × Int)} (hp : eparseS xs 0 = ⟨PM, PY, T, E⟩) (he : E = 0) :
  BeOk PM PY ∧ ∃ T' : Nat, T = (T' : Int) ∧ 5 ≤ T' ∧ T' ≤ xs.length ∧ beB PM PY = xs.take T' := by
 subst he
 have hok : BeOk PM PY := by
  have := eparse_ok (xs := xs) (k := 0) (by rw [hp])
  rw [hp] at this
  exact this
 refine ⟨hok, ?_⟩
 unfold eparseS at hp
 obtain ⟨N1, s1, e1, h1⟩ : ∃ x y z, numS xs 4 (0, 0) = (x, y, z) := ⟨_, _, _, rfl⟩
 obtain ⟨cn, s2, e2, h2⟩ : ∃ x y z, numS xs 1 (s1, e1) = (x, y, z) := ⟨_, _, _, rfl⟩
 simp only [h1, h2] at hp
 have hc : 0 ≤ cn ∧ cn ≤ 255 := by have := num1_bd hx (s1, e1); rw [h2] at this; exact this
 unfold eparseF at hp
 split at hp
 ·rename_i hr
  split at hp
  ·simp only [EP.mk.injEq, and_true] at hp
   obtain ⟨rfl, hy, ht⟩ := hp
   have he2 : e2 = 0 := by
    by_cases h0 : e2 = 0
    ·exact h0
    ·rw [itE_err h0] at hr; exact absurd hr h0
   subst he2
   have he1 : e1 = 0 := by
    by_cases h0 : e1 = 0
    ·exact h0
    ·exact (num_no h0 h2).elim
   subst he1
   obtain ⟨_, i2, i3, i4⟩ := num_inv hx (n := 4) (K := 0) (e := 0) h1
   subst i3
   obtain ⟨_, j2, j3, j4⟩ := num_inv hx (n := 1) h2
   subst j3
   obtain ⟨_, k2, zs, k3, k4, k5⟩ := it_inv hx cn.toNat [] (0 + 4 + 1) 0 (by omega) hr
   rw [k3] at hy ht
   simp only [List.nil_append] at hy ht
   subst hy
   refine ⟨0 + 4 + 1 + 5 * cn.toNat, ht.symm, by omega, k2, ?_⟩
   rw [lo_one hc] at j4
   have hlen : (zs.length : Int) = cn := by rw [k4]; omega
   unfold beB
   rw [hlen, i4, j4, k5, show 0 + 4 + 1 + 5 * cn.toNat = 4 + (1 + 5 * cn.toNat) by omega, List.take_add, List.take_add, List.drop_drop, List.drop_zero]
   simp only [List.append_assoc]
  ·cases hp
 ·rename_i hr
  simp only [EP.no, EP.mk.injEq] at hp
  exact absurd hp.2.2.2 hr
theorem it_fwd (m : List Int) : ∀ (rem : List (Int × Int)) (f : List Int) (acc : List (Int × Int)) (K : Nat), K = f.length → (∀ y ∈ rem, EcIn y) →
  itE (f ++ ((rem.map ecB).flatten ++ m)) rem.length (acc, ((K : Int), 0)) = (acc ++ rem, (((K + 5 * rem.length : Nat) : Int), 0))
 | [], f, acc, K, _, _ => by simp [itE]
 | y :: rem, f, acc, K, hK, h => by
  have hy := h y List.mem_cons_self
  have e1 : f ++ (((y :: rem).map ecB).flatten ++ m) = f ++ (lo y.1 1 ++ (lo y.2 4 ++ ((rem.map ecB).flatten ++ m))) := by
   rw [lo_one (by have := hy.1; omega)]
   simp [ecB]
  have e2 : f ++ (((y :: rem).map ecB).flatten ++ m) = (f ++ [y.1]) ++ (lo y.2 4 ++ ((rem.map ecB).flatten ++ m)) := by simp [ecB]
  have e3 : f ++ (((y :: rem).map ecB).flatten ++ m) = (f ++ ecB y) ++ ((rem.map ecB).flatten ++ m) := by simp
  have n1 : numS (f ++ (((y :: rem).map ecB).flatten ++ m)) 1 ((K : Int), 0) = (y.1, ((K + 1 : Nat) : Int), 0) := by
   rw [e1]
   have := num_fwd f (lo y.2 4 ++ ((rem.map ecB).flatten ++ m)) y.1 1 K hK (by decide) (by decide) ⟨hy.1.1, by have := hy.1.2; show y.1 < 256 * 1; omega⟩
   simpa using this
  have n2 : numS (f ++ (((y :: rem).map ecB).flatten ++ m)) 4 (((K + 1 : Nat) : Int), 0) = (y.2, ((K + 5 : Nat) : Int), 0) := by
   rw [e2]
   have := num_fwd (f ++ [y.1]) ((rem.map ecB).flatten ++ m) y.2 4 (K + 1) (by simp [hK]) (by decide) (by decide) ⟨hy.2.1, by have := hy.2.2; show y.2 < 256 * (256 * (256 * (256 * 1))); omega⟩
   rw [show (((K + 5 : Nat)) : Int) = ((K + 1 : Nat) : Int) + ((4 : Nat) : Int) by omega]
   exact this
  have hs : stepE (f ++ (((y :: rem).map ecB).flatten ++ m)) (acc, ((K : Int), 0)) = (acc ++ [y], (((K + 5 : Nat) : Int), 0)) := by
   simp only [stepE, n1, n2]
  rw [List.length_cons, itE, hs, e3, it_fwd m rem (f ++ ecB y) (acc ++ [y]) (K + 5) (by rw [List.length_append, ecB_len, hK]) (fun z hz => h z (List.mem_cons_of_mem _ hz))]
  simp only [List.append_assoc, List.singleton_append, Prod.mk.injEq, true_and, and_true]
  omega
theorem eparse_fwd (f m : List Int) {M : Int} {ys : List (Int × Int)} (h : BeOk M ys) : eparseS (f ++ (beB M ys ++ m)) f.length = ⟨M, ys, (f.length : Int) + ((beB M ys).length : Int), 0⟩ := by
 have hl := h.len
 have hM := h.2
 have e1 : f ++ (beB M ys ++ m) = f ++ (lo M 4 ++ ([(ys.length : Int)] ++ (((ys.map ecB).flatten) ++ m))) := by unfold beB; simp
 have e2 : f ++ (beB M ys ++ m) = (f ++ lo M 4) ++ (lo (ys.length : Int) 1 ++ (((ys.map ecB).flatten) ++ m)) := by
  rw [lo_one (by omega)]; unfold beB; simp
 have e3 : f ++ (beB M ys ++ m) = (f ++ lo M 4 ++ [(ys.length : Int)]) ++ (((ys.map ecB).flatten) ++ m) := by unfold beB; simp
 have n1 : numS (f ++ (beB M ys ++ m)) 4 ((f.length : Int), 0) = (M, ((f.length + 4 : Nat) : Int), 0) := by
  rw [e1]
  have := num_fwd f ([(ys.length : Int)] ++ (((ys.map ecB).flatten) ++ m)) M 4 f.length rfl (by decide) (by decide) ⟨hM.1, by have := hM.2; show M < 256 * (256 * (256 * (256 * 1))); omega⟩
  simpa using this
 have n2 : numS (f ++ (beB M ys ++ m)) 1 (((f.length + 4 : Nat) : Int), 0) = ((ys.length : Int), ((f.length + 5 : Nat) : Int), 0) := by
  rw [e2]
  have := num_fwd (f ++ lo M 4) (((ys.map ecB).flatten) ++ m) (ys.length : Int) 1 (f.length + 4) (by rw [List.length_append, lo_len]) (by decide) (by decide) ⟨by omega, by show (ys.length : Int) < 256 * 1; omega⟩
  rw [show (((f.length + 5 : Nat)) : Int) = ((f.length + 4 : Nat) : Int) + ((1 : Nat) : Int) by omega]
  exact this
 have n3 : itE (f ++ (beB M ys ++ m)) ys.length ([], (((f.length + 5 : Nat) : Int), 0)) = (ys, (((f.length + 5 + 5 * ys.length : Nat) : Int), 0)) := by
  rw [e3, it_fwd m ys (f ++ lo M 4 ++ [(ys.length : Int)]) [] (f.length + 5) (by simp [lo_len]) (beok_iff.1 h).2.1]
  simp
 unfold eparseS
 simp only [n1, n2, Int.toNat_natCast, n3]
 unfold eparseF
 simp only [if_true, if_pos h]
 rw [beB_len]
 simp only [EP.mk.injEq, true_and, and_true]
 omega
end Go.Proofs.YtjghebcnmoojmaaGreat

namespace Go.Proofs.YtjghebcnmoojmaaGreat
set_option maxRecDepth 100000

theorem getS_fwd {f m xs : List Int} {v : Int} {n : Nat} {q z : Int} (hxs : xs = f ++ (lo v n ++ m)) (hq : q = (f.length : Int)) (hz : z = (n : Int)) (h1 : 1 ≤ n) (h7 : n ≤ 7) (hv : 0 ≤ v ∧ v < pow256 n) : getS xs q z = (v, q + z, 0) := by
 subst hxs; subst hq; subst hz
 have hp : PutOk v (n : Int) := ⟨by omega, by omega, hv.1, by simpa using hv.2⟩
 have := back_get f m hp
 have hB : putB v (n : Int) = lo v n := by unfold putB; rw [if_pos hp]; simp
 rw [hB] at this
 exact this
theorem getS_inv {xs : List Int} (hx : ∀ x ∈ xs, 0 ≤ x ∧ x < 256) {n K : Nat} (h : (getS xs (K : Int) (n : Int)).2.2 = 0) :
  K + n ≤ xs.length ∧ (getS xs (K : Int) (n : Int)).2.1 = ((K + n : Nat) : Int) ∧ lo (getS xs (K : Int) (n : Int)).1 n = (xs.drop K).take n := by
 unfold getS at h ⊢
 split at h
 ·simp at h
 ·rename_i hn
  rw [if_neg hn]
  split at h
  ·simp at h
  ·rename_i hl
   rw [if_neg hl]
   have hlen : K + n ≤ xs.length := by omega
   refine ⟨hlen, by simp, ?_⟩
   unfold segN
   simp only [Int.toNat_natCast]
   have hl2 : ((xs.drop K).take n).length = n := by simp; omega
   have := lo_be ((xs.drop K).take n) (fun x hx' => hx x (List.drop_subset _ _ (List.take_subset _ _ hx')))
   rw [hl2] at this
   exact this
theorem getS_one {xs : List Int} (hx : ∀ x ∈ xs, 0 ≤ x ∧ x < 256) {K : Nat} (h : (getS xs (K : Int) 1).2.2 = 0) :
  K + 1 ≤ xs.length ∧ (getS xs (K : Int) 1).2.1 = ((K + 1 : Nat) : Int) ∧ [(getS xs (K : Int) 1).1] = (xs.drop K).take 1 := by
 obtain ⟨h1, h2, h3⟩ := getS_inv hx (n := 1) h
 refine ⟨h1, h2, ?_⟩
 rw [← h3]
 exact (lo_one (getS_byte hx _)).symm
theorem ak_fwd {f m xs : List Int} {y : Int × Int × Int × Int} {q : Int} (hxs : xs = f ++ (akB y ++ m)) (hq : q = (f.length : Int)) (h : AkOne y) :
  (∀ i, i < 4 → rdE xs q i = 0) ∧ rdP xs q 4 = q + 9 ∧ rdV xs q 0 = y.1 ∧ rdV xs q 1 = y.2.1 ∧ rdV xs q 2 = y.2.2.1 ∧ rdV xs q 3 = y.2.2.2 := by
 obtain ⟨h0, h1, h2, h3⟩ := h
 have e0 : lo y.1 1 = [y.1] := lo_one (by omega)
 have hx0 : xs = f ++ (lo y.1 1 ++ (lo y.2.1 4 ++ (lo y.2.2.1 2 ++ (lo y.2.2.2 2 ++ m)))) := by rw [hxs, akB, e0]; simp
 have g0 : getS xs q 1 = (y.1, q + 1, 0) := getS_fwd hx0 hq rfl (by decide) (by decide) ⟨h0.1, by have := h0.2; show y.1 < 256 * 1; omega⟩
 have g1 : getS xs (q + 1) 4 = (y.2.1, q + 1 + 4, 0) := getS_fwd (f := f ++ lo y.1 1) (m := lo y.2.2.1 2 ++ (lo y.2.2.2 2 ++ m)) (by rw [hx0]; simp) (by rw [hq]; simp [lo_len]) rfl (by decide) (by decide) ⟨h1.1, by have := h1.2; show y.2.1 < 256 * (256 * (256 * (256 * 1))); omega⟩
 have g2 : getS xs (q + 1 + 4) 2 = (y.2.2.1, q + 1 + 4 + 2, 0) := getS_fwd (f := f ++ lo y.1 1 ++ lo y.2.1 4) (m := lo y.2.2.2 2 ++ m) (by rw [hx0]; simp) (by rw [hq]; simp [lo_len]; omega) rfl (by decide) (by decide) ⟨h2.1, by have := h2.2; show y.2.2.1 < 256 * (256 * 1); omega⟩
 have g3 : getS xs (q + 1 + 4 + 2) 2 = (y.2.2.2, q + 1 + 4 + 2 + 2, 0) := getS_fwd (f := f ++ lo y.1 1 ++ lo y.2.1 4 ++ lo y.2.2.1 2) (m := m) (by rw [hx0]; simp) (by rw [hq]; simp [lo_len]; omega) rfl (by decide) (by decide) ⟨h3.1, by have := h3.2; show y.2.2.2 < 256 * (256 * 1); omega⟩
 have p0 : rdP xs q 0 = q := rfl
 have p1 : rdP xs q 1 = q + 1 := by show (getS xs q 1).2.1 = _; rw [g0]
 have p2 : rdP xs q 2 = q + 1 + 4 := by show (getS xs (rdP xs q 1) 4).2.1 = _; rw [p1, g1]
 have p3 : rdP xs q 3 = q + 1 + 4 + 2 := by show (getS xs (rdP xs q 2) 2).2.1 = _; rw [p2, g2]
 have p4 : rdP xs q 4 = q + 1 + 4 + 2 + 2 := by show (getS xs (rdP xs q 3) 2).2.1 = _; rw [p3, g3]
 refine ⟨fun i hi => ?_, by rw [p4]; omega, by show (getS xs q 1).1 = _; rw [g0], by show (getS xs (rdP xs q 1) 4).1 = _; rw [p1, g1], by show (getS xs (rdP xs q 2) 2).1 = _; rw [p2, g2], by show (getS xs (rdP xs q 3) 2).1 = _; rw [p3, g3]⟩
 have : i = 0 ∨ i = 1 ∨ i = 2 ∨ i = 3 := by omega
 rcases this with rfl | rfl | rfl | rfl
 ·show (getS xs q 1).2.2 = 0; rw [g0]
 ·show (getS xs (rdP xs q 1) 4).2.2 = 0; rw [p1, g1]
 ·show (getS xs (rdP xs q 2) 2).2.2 = 0; rw [p2, g2]
 ·show (getS xs (rdP xs q 3) 2).2.2 = 0; rw [p3, g3]
theorem akP_fwd {m xs : List Int} : ∀ (ys acc : List (Int × Int × Int × Int)) (f : List Int) (q : Int), xs = f ++ ((ys.map akB).flatten ++ m) → q = (f.length : Int) → (∀ y ∈ ys, AkOne y) → akP xs ys.length q acc = .inr (acc ++ ys, q + 9 * ys.length)
 | [], acc, f, q, _, _, _ => by simp [akP]
 | y :: ys, acc, f, q, hxs, hq, h => by
  obtain ⟨h0, h1, h2, h3, h4, h5⟩ := ak_fwd (f := f) (m := (ys.map akB).flatten ++ m) (y := y) (q := q) (xs := xs) (by rw [hxs]; simp) hq (h y (by simp))
  rw [List.length_cons, akP_go h0, h1, h2, h3, h4, h5, akP_fwd (m := m) ys (acc ++ [y]) (f ++ akB y) (q + 9) (by rw [hxs]; simp) (by rw [hq]; simp [akB_len]) (fun z hz => h z (List.mem_cons_of_mem _ hz))]
  simp
  omega
theorem acPF_fwd {f m : List Int} {ys : List (Int × Int × Int × Int)} (h : AksOk ys) : acPF (f ++ (acB ys ++ m)) f.length = .inr (ys, (f.length : Int) + (acB ys).length) := by
 have hl := h.2.2
 have hone : ∀ y ∈ ys, AkOne y := fun y hy => by
  obtain ⟨i, hi, rfl⟩ := List.mem_iff_getElem.1 hy
  have := (h.1 i hi).1
  simpa [List.getD, hi] using this
 obtain ⟨xs, hxs⟩ : ∃ xs, f ++ (acB ys ++ m) = xs := ⟨_, rfl⟩
 have hx0 : xs = f ++ (lo (ys.length : Int) 1 ++ ((ys.map akB).flatten ++ m)) := by rw [← hxs, acB, lo_one (by omega)]; simp
 have g0 : getS xs (f.length : Int) 1 = ((ys.length : Int), (f.length : Int) + 1, 0) := getS_fwd hx0 rfl rfl (by decide) (by decide) ⟨by omega, by show (ys.length : Int) < 256 * 1; omega⟩
 have hr := akP_fwd (xs := xs) (m := m) ys [] (f ++ lo (ys.length : Int) 1) ((f.length : Int) + 1) (by rw [hx0]; simp) (by simp [lo_len]) hone
 rw [hxs]
 unfold acPF
 rw [g0]
 simp only [ne_eq, not_true_eq_false, if_false, Int.toNat_natCast, hr, List.nil_append]
 rw [if_pos h, acB, List.length_append, akB_flat_len]
 simp
 omega
theorem akP_inv {xs : List Int} (hx : ∀ x ∈ xs, 0 ≤ x ∧ x < 256) : ∀ (n K : Nat) (acc l : List (Int × Int × Int × Int)) (to : Int), K ≤ xs.length → akP xs n (K : Int) acc = .inr (l, to) →
  ∃ zs, l = acc ++ zs ∧ zs.length = n ∧ to = ((K + 9 * n : Nat) : Int) ∧ K + 9 * n ≤ xs.length ∧ (zs.map akB).flatten = (xs.drop K).take (9 * n)
 | 0, K, acc, l, to, hK, h => by
  simp only [akP, Sum.inr.injEq, Prod.mk.injEq] at h
  exact ⟨[], by simp [h.1], rfl, by simp [h.2], by omega, by simp⟩
 | n + 1, K, acc, l, to, hK, h => by
  rw [akP] at h
  by_cases e0 : rdE xs (K : Int) 0 = 0
  ·rw [if_neg (not_not_intro e0)] at h
   by_cases e1 : rdE xs (K : Int) 1 = 0
   ·rw [if_neg (not_not_intro e1)] at h
    by_cases e2 : rdE xs (K : Int) 2 = 0
    ·rw [if_neg (not_not_intro e2)] at h
     by_cases e3 : rdE xs (K : Int) 3 = 0
     ·rw [if_neg (not_not_intro e3)] at h
      have e0' : (getS xs (K : Int) 1).2.2 = 0 := e0
      obtain ⟨a1, a2, a3⟩ := getS_one hx e0'
      have p1 : rdP xs (K : Int) 1 = ((K + 1 : Nat) : Int) := a2
      have e1' : (getS xs (rdP xs (K : Int) 1) 4).2.2 = 0 := e1
      rw [p1] at e1'
      obtain ⟨b1, b2, b3⟩ := getS_inv hx (n := 4) e1'
      have p2 : rdP xs (K : Int) 2 = ((K + 1 + 4 : Nat) : Int) := by show (getS xs (rdP xs (K : Int) 1) 4).2.1 = _; rw [p1]; exact b2
      have e2' : (getS xs (rdP xs (K : Int) 2) 2).2.2 = 0 := e2
      rw [p2] at e2'
      obtain ⟨c1, c2, c3⟩ := getS_inv hx (n := 2) e2'
      have p3 : rdP xs (K : Int) 3 = ((K + 1 + 4 + 2 : Nat) : Int) := by show (getS xs (rdP xs (K : Int) 2) 2).2.1 = _; rw [p2]; exact c2
      have e3' : (getS xs (rdP xs (K : Int) 3) 2).2.2 = 0 := e3
      rw [p3] at e3'
      obtain ⟨d1, d2, d3⟩ := getS_inv hx (n := 2) e3'
      have p4 : rdP xs (K : Int) 4 = ((K + 1 + 4 + 2 + 2 : Nat) : Int) := by show (getS xs (rdP xs (K : Int) 3) 2).2.1 = _; rw [p3]; exact d2
      rw [p4] at h
      obtain ⟨zs, k1, k2, k3, k4, k5⟩ := akP_inv hx n (K + 1 + 4 + 2 + 2) _ l to d1 h
      have v1 : rdV xs (K : Int) 1 = (getS xs ((K + 1 : Nat) : Int) (4 : Nat)).1 := by show (getS xs (rdP xs (K : Int) 1) 4).1 = _; rw [p1]; rfl
      have v2 : rdV xs (K : Int) 2 = (getS xs ((K + 1 + 4 : Nat) : Int) (2 : Nat)).1 := by show (getS xs (rdP xs (K : Int) 2) 2).1 = _; rw [p2]; rfl
      have v3 : rdV xs (K : Int) 3 = (getS xs ((K + 1 + 4 + 2 : Nat) : Int) (2 : Nat)).1 := by show (getS xs (rdP xs (K : Int) 3) 2).1 = _; rw [p3]; rfl
      have v0 : rdV xs (K : Int) 0 = (getS xs (K : Int) 1).1 := rfl
      refine ⟨(rdV xs (K : Int) 0, rdV xs (K : Int) 1, rdV xs (K : Int) 2, rdV xs (K : Int) 3) :: zs, by rw [k1]; simp, by simp [k2], by rw [k3]; congr 1; omega, by omega, ?_⟩
      rw [List.map_cons, List.flatten_cons, k5, akB]
      simp only
      rw [v0, v1, v2, v3, b3, c3, d3, show 9 * (n + 1) = 1 + (4 + (2 + (2 + 9 * n))) by omega, List.take_add, List.drop_drop, List.take_add, List.drop_drop, List.take_add, List.drop_drop, List.take_add, List.drop_drop, ← a3]
      simp
     ·rw [if_pos e3] at h; cases h
    ·rw [if_pos e2] at h; cases h
   ·rw [if_pos e1] at h; cases h
  ·rw [if_pos e0] at h; cases h
theorem acPF_inv {xs : List Int} (hx : ∀ x ∈ xs, 0 ≤ x ∧ x < 256) {ys : List (Int × Int × Int × Int)} {to : Int} (h : acPF xs 0 = .inr (ys, to)) :
  AksOk ys ∧ ∃ T : Nat, to = (T : Int) ∧ 10 ≤ T ∧ T ≤ xs.length ∧ acB ys = xs.take T := by
 unfold acPF at h
 by_cases e : (getS xs 0 1).2.2 = 0
 ·rw [if_neg (not_not_intro e)] at h
  obtain ⟨a1, a2, a3⟩ := getS_one hx (K := 0) e
  have hb := getS_byte hx 0
  obtain ⟨c, hc⟩ : ∃ c, (getS xs 0 1).1 = c := ⟨_, rfl⟩
  have a2' : (getS xs 0 1).2.1 = ((1 : Nat) : Int) := by simpa using a2
  have a3' : [c] = xs.take 1 := by rw [← hc]; simpa using a3
  rw [hc] at h hb
  rw [a2'] at h
  cases hr : akP xs c.toNat ((1 : Nat) : Int) [] with
  | inl e => rw [hr] at h; cases h
  | inr r =>
   obtain ⟨l, t⟩ := r
   rw [hr] at h
   simp only at h
   split at h
   ·rename_i hok
    simp only [Sum.inr.injEq, Prod.mk.injEq] at h
    obtain ⟨rfl, rfl⟩ := h
    obtain ⟨zs, k1, k2, k3, k4, k5⟩ := akP_inv hx c.toNat 1 [] l t (by omega) hr
    rw [List.nil_append] at k1
    subst k1
    refine ⟨hok, 1 + 9 * c.toNat, k3, ?_, k4, ?_⟩
    ·have := hok.2.1; omega
    ·have hlen : (l.length : Int) = c := by rw [k2]; omega
     unfold acB
     rw [hlen, k5, a3', List.take_add]
   ·cases h
 ·rw [if_pos e] at h; cases h
end Go.Proofs.YtjghebcnmoojmaaGreat

namespace Go.Proofs.YtjghebcnmoojmaaGreat
set_option maxRecDepth 100000

structure Pt where
 k : Int
 be : Int
 es : List (Int × Int)
 bn : Int
 os : List Ob
 ks : List (Int × Int × Int × Int)
 s : Int
 d : Int
 t : Int
 n : Int
 x : ByteArray
def zPt : Pt := ⟨0, 0, [], 0, [], [], 0, 0, 0, 0, ⟨#[]⟩⟩
def Pt.noBe (p : Pt) : Prop := p.be = 0 ∧ p.es.length = 0
def Pt.noBt (p : Pt) : Prop := p.bn = 0 ∧ p.os.length = 0
def Pt.noAk (p : Pt) : Prop := p.ks.length = 0
def Pt.noPk (p : Pt) : Prop := p.s = 0 ∧ p.d = 0 ∧ p.t = 0 ∧ p.n = 0 ∧ p.x = ⟨#[]⟩
instance (p : Pt) : Decidable p.noBe := by unfold Pt.noBe; infer_instance
instance (p : Pt) : Decidable p.noBt := by unfold Pt.noBt; infer_instance
instance (p : Pt) : Decidable p.noAk := by unfold Pt.noAk; infer_instance
instance (p : Pt) : Decidable p.noPk := by unfold Pt.noPk; infer_instance
def Pt.Ok (p : Pt) : Prop :=
 (p.k = 1 ∧ BeOk p.be p.es ∧ p.noBt ∧ p.noAk ∧ p.noPk) ∨ (p.k = 2 ∧ p.noBe ∧ BtOk p.bn p.os ∧ p.noAk ∧ p.noPk) ∨
 (p.k = 3 ∧ p.noBe ∧ p.noBt ∧ AksOk p.ks ∧ p.noPk) ∨ (p.k = 4 ∧ p.noBe ∧ p.noBt ∧ p.noAk ∧ PkOk p.s p.d p.t p.n p.x)
instance (p : Pt) : Decidable p.Ok := by unfold Pt.Ok; infer_instance
def Pt.bs (p : Pt) : List Int := if p.k = 1 then beB p.be p.es else if p.k = 2 then btB p.bn p.os else if p.k = 3 then acB p.ks else pkB p.s p.d p.t p.n p.x
def Pt.row (p : Pt) : List Int := [p.k, (p.bs.length : Int) / 256, (p.bs.length : Int) % 256] ++ p.bs
def psB (ps : List Pt) : List Int := (ps.map Pt.row).flatten
def AllP (ps : List Pt) : Prop := ∀ i, i < ps.length → (ps.getD i zPt).Ok
instance (ps : List Pt) : Decidable (AllP ps) := by unfold AllP; infer_instance
theorem Pt.row_len (p : Pt) : p.row.length = 3 + p.bs.length := by simp [Pt.row]; omega
theorem psB_cons (p : Pt) (ps : List Pt) : psB (p :: ps) = p.row ++ psB ps := rfl
theorem psB_step (ps : List Pt) (k : Nat) (h : k < ps.length) : psB (ps.take (k + 1)) = psB (ps.take k) ++ (ps.getD k zPt).row := by
 unfold psB
 rw [List.take_succ_eq_append_getElem h, List.map_append, List.flatten_append]; simp [List.getD, h]
theorem allP_cons {p : Pt} {ps : List Pt} : AllP (p :: ps) ↔ p.Ok ∧ AllP ps :=
 ⟨fun h => ⟨h 0 (by simp), fun i hi => h (i + 1) (by simpa using hi)⟩, fun ⟨h, h'⟩ i hi => match i with
  | 0 => h
  | i + 1 => h' i (by simpa using hi)⟩
theorem btB_byt {N : Int} {ys : List Ob} (h : BtOk N ys) : Byt (btB N ys) := by
 obtain ⟨hN, hl, hok, _⟩ := h
 unfold btB
 refine byt_app (fun x hx => ?_) (fun x hx => ?_)
 ·simp only [List.mem_cons, List.not_mem_nil, or_false] at hx
  rcases hx with rfl | rfl | rfl <;> omega
 ·obtain ⟨l, hm, hxl⟩ := List.mem_flatten.1 hx
  obtain ⟨y, hy, rfl⟩ := List.mem_map.1 hm
  obtain ⟨i, hi, rfl⟩ := List.mem_iff_getElem.1 hy
  have := hok i hi
  rw [show ys.getD i z12 = ys[i] by simp [List.getD, hi]] at this
  exact ob_byt this x hxl
theorem btB_len (N : Int) (ys : List Ob) : (btB N ys).length = 3 + osz ys := by
 unfold btB; rw [List.length_append, bs_flat_len]; rfl
theorem Pt.bs_byt {p : Pt} (h : p.Ok) : ∀ x ∈ p.bs, 0 ≤ x ∧ x < 256 := by
 unfold Pt.bs
 rcases h with ⟨hk, h, _⟩ | ⟨hk, _, h, _⟩ | ⟨hk, _, _, h, _⟩ | ⟨hk, _, _, _, h⟩ <;> rw [hk]
 ·exact beB_byt h
 ·exact btB_byt h
 ·exact byt_acB h
 ·exact pkB_byt h
theorem BeOk.len' {M : Int} {ys : List (Int × Int)} (h : BeOk M ys) : (beB M ys).length ≤ 325 := by rw [beB_len]; have := h.len; omega
theorem Pt.bs_len {p : Pt} (h : p.Ok) : p.bs.length ≤ 600 := by
 unfold Pt.bs
 rcases h with ⟨hk, h, _⟩ | ⟨hk, _, h, _⟩ | ⟨hk, _, _, h, _⟩ | ⟨hk, _, _, _, h⟩ <;> rw [hk]
 ·have := h.len'; simp only [if_true]; omega
 ·rw [if_neg (by decide), if_pos rfl, btB_len]
  have := h.2.2.2
  omega
 ·rw [if_neg (by decide), if_neg (by decide), if_pos rfl, acB_len]
  have := h.2; omega
 ·rw [if_neg (by decide), if_neg (by decide), if_neg (by decide), pkB_len]
  have := h.2.2.2.2; omega
theorem Pt.row_byt {p : Pt} (h : p.Ok) : ∀ x ∈ p.row, 0 ≤ x ∧ x < 256 := fun x hx => by
 have hl := Pt.bs_len h
 have hk : 1 ≤ p.k ∧ p.k ≤ 4 := by rcases h with ⟨hk, _⟩ | ⟨hk, _⟩ | ⟨hk, _⟩ | ⟨hk, _⟩ <;> omega
 rcases List.mem_append.1 hx with hx | hx
 ·simp only [List.mem_cons, List.not_mem_nil, or_false] at hx
  rcases hx with rfl | rfl | rfl <;> omega
 ·exact Pt.bs_byt h x hx
theorem psB_byt {ps : List Pt} (h : AllP ps) : ∀ x ∈ psB ps, 0 ≤ x ∧ x < 256 := by
 induction ps with
 | nil => intro x hx; cases hx
 | cons p ps ih =>
  intro x hx
  obtain ⟨h1, h2⟩ := allP_cons.1 h
  rcases List.mem_append.1 hx with hx | hx
  ·exact Pt.row_byt h1 x hx
  ·exact ih h2 x hx
theorem psB_len {ps : List Pt} (h : AllP ps) : (psB ps).length ≤ 603 * ps.length := by
 induction ps with
 | nil => simp [psB]
 | cons p ps ih =>
  obtain ⟨h1, h2⟩ := allP_cons.1 h
  have := ih h2
  have := Pt.bs_len h1
  rw [psB_cons, List.length_append, Pt.row_len, List.length_cons]; omega
def FrHd (fr ep to pe : Int) (n : Nat) : Prop := (0 ≤ fr ∧ fr < 64) ∧ ((0 ≤ to ∧ to < 64) ∨ (to = 255 ∧ pe = 0)) ∧ EpOk ep ∧ EpOk pe ∧ 1 ≤ n ∧ n ≤ 8
instance (fr ep to pe : Int) (n : Nat) : Decidable (FrHd fr ep to pe n) := by unfold FrHd; infer_instance
def FrOk (fr ep to pe : Int) (ps : List Pt) : Prop := FrHd fr ep to pe ps.length ∧ AllP ps ∧ 17 + (psB ps).length ≤ 1400
instance (fr ep to pe : Int) (ps : List Pt) : Decidable (FrOk fr ep to pe ps) := by unfold FrOk; infer_instance
def frHead (fr ep to pe n c : Int) : List Int := [84, 1, fr, to] ++ (lo ep 4 ++ (lo pe 4 ++ [n / 256, n % 256, c]))
def frB0 (fr ep to pe : Int) (ps : List Pt) : List Int := frHead fr ep to pe (17 + ((psB ps).length : Int)) ps.length ++ psB ps
def frB (fr ep to pe : Int) (ps : List Pt) : List Int := frB0 fr ep to pe ps ++ [sumN (frB0 fr ep to pe ps) / 256, sumN (frB0 fr ep to pe ps) % 256]
theorem frHead_len (fr ep to pe n c : Int) : (frHead fr ep to pe n c).length = 15 := by simp [frHead, lo_len]
theorem frB0_len (fr ep to pe : Int) (ps : List Pt) : (frB0 fr ep to pe ps).length = 15 + (psB ps).length := by rw [frB0, List.length_append, frHead_len]
theorem frB_len (fr ep to pe : Int) (ps : List Pt) : (frB fr ep to pe ps).length = 17 + (psB ps).length := by rw [frB, List.length_append, frB0_len]; simp; omega
theorem sumN_bd (xs : List Int) : 0 ≤ sumN xs ∧ sumN xs ≤ 65535 := by
 have := sumP_bd xs; unfold sumN; omega
theorem frHead_byt {fr ep to pe n c : Int} (hf : 0 ≤ fr ∧ fr < 256) (ht : 0 ≤ to ∧ to < 256) (hn : 0 ≤ n ∧ n ≤ 65535) (hc : 0 ≤ c ∧ c < 256) : ∀ x ∈ frHead fr ep to pe n c, 0 ≤ x ∧ x < 256 := fun x hx => by
 rcases List.mem_append.1 hx with hx | hx
 ·simp only [List.mem_cons, List.not_mem_nil, or_false] at hx
  rcases hx with rfl | rfl | rfl | rfl <;> omega
 ·rcases List.mem_append.1 hx with hx | hx
  ·exact lo_bytes ep 4 x hx
  ·rcases List.mem_append.1 hx with hx | hx
   ·exact lo_bytes pe 4 x hx
   ·simp only [List.mem_cons, List.not_mem_nil, or_false] at hx
    rcases hx with rfl | rfl | rfl <;> omega
theorem FrHd.lo {fr ep to pe : Int} {n : Nat} (h : FrHd fr ep to pe n) : (0 ≤ fr ∧ fr < 256) ∧ (0 ≤ to ∧ to < 256) ∧ ((0 : Int) ≤ n ∧ (n : Int) < 256) := by
 obtain ⟨h1, h2, _, _, h5⟩ := h
 refine ⟨by omega, ?_, by omega⟩
 rcases h2 with h2 | h2 <;> omega
theorem frB0_byt {fr ep to pe : Int} {ps : List Pt} (h : FrOk fr ep to pe ps) : ∀ x ∈ frB0 fr ep to pe ps, 0 ≤ x ∧ x < 256 := fun x hx => by
 obtain ⟨a, b, c⟩ := h.1.lo
 rcases List.mem_append.1 hx with hx | hx
 ·exact frHead_byt a b (by have := h.2.2; omega) c x hx
 ·exact psB_byt h.2.1 x hx
theorem frB_byt {fr ep to pe : Int} {ps : List Pt} (h : FrOk fr ep to pe ps) : ∀ x ∈ frB fr ep to pe ps, 0 ≤ x ∧ x < 256 := fun x hx => by
 rcases List.mem_append.1 hx with hx | hx
 ·exact frB0_byt h x hx
 ·have := sumN_bd (frB0 fr ep to pe ps)
  simp only [List.mem_cons, List.not_mem_nil, or_false] at hx
  rcases hx with rfl | rfl <;> omega
theorem bs_k1 {p : Pt} (h : p.k = 1) : p.bs = beB p.be p.es := by unfold Pt.bs; rw [if_pos h]
theorem bs_k2 {p : Pt} (h : p.k = 2) : p.bs = btB p.bn p.os := by unfold Pt.bs; rw [if_neg (by omega), if_pos h]
theorem bs_k3 {p : Pt} (h : p.k = 3) : p.bs = acB p.ks := by unfold Pt.bs; rw [if_neg (by omega), if_neg (by omega), if_pos h]
theorem bs_k4 {p : Pt} (h : p.k = 4) : p.bs = pkB p.s p.d p.t p.n p.x := by unfold Pt.bs; rw [if_neg (by omega), if_neg (by omega), if_neg (by omega)]
def rdPart (k : Int) (b : List Int) : Option Pt :=
 if k = 1 then (if (eparseS b 0).e = 0 ∧ (eparseS b 0).to = b.length then some ⟨1, (eparseS b 0).M, (eparseS b 0).ys, 0, [], [], 0, 0, 0, 0, ⟨#[]⟩⟩ else none)
 else if k = 2 then (if (bparseS b 0).e = 0 ∧ (bparseS b 0).to = b.length then some ⟨2, 0, [], (bparseS b 0).M, (bparseS b 0).ys, [], 0, 0, 0, 0, ⟨#[]⟩⟩ else none)
 else if k = 3 then (if paK (acPF b 0) = 0 ∧ paT (acPF b 0) = b.length then some ⟨3, 0, [], 0, [], paY (acPF b 0), 0, 0, 0, 0, ⟨#[]⟩⟩ else none)
 else if k = 4 then (if pkE (pkPF b 0) = 0 ∧ pkT (pkPF b 0) = b.length then some ⟨4, 0, [], 0, [], [], (pkR (pkPF b 0)).1, (pkR (pkPF b 0)).2.1, (pkR (pkPF b 0)).2.2.1, (pkR (pkPF b 0)).2.2.2.1, (pkR (pkPF b 0)).2.2.2.2⟩ else none)
 else none
theorem rd_k1 (b : List Int) : rdPart 1 b = if (eparseS b 0).e = 0 ∧ (eparseS b 0).to = b.length then some ⟨1, (eparseS b 0).M, (eparseS b 0).ys, 0, [], [], 0, 0, 0, 0, ⟨#[]⟩⟩ else none := rfl
theorem rd_k2 (b : List Int) : rdPart 2 b = if (bparseS b 0).e = 0 ∧ (bparseS b 0).to = b.length then some ⟨2, 0, [], (bparseS b 0).M, (bparseS b 0).ys, [], 0, 0, 0, 0, ⟨#[]⟩⟩ else none := rfl
theorem rd_k3 (b : List Int) : rdPart 3 b = if paK (acPF b 0) = 0 ∧ paT (acPF b 0) = b.length then some ⟨3, 0, [], 0, [], paY (acPF b 0), 0, 0, 0, 0, ⟨#[]⟩⟩ else none := rfl
theorem rd_k4 (b : List Int) : rdPart 4 b = if pkE (pkPF b 0) = 0 ∧ pkT (pkPF b 0) = b.length then some ⟨4, 0, [], 0, [], [], (pkR (pkPF b 0)).1, (pkR (pkPF b 0)).2.1, (pkR (pkPF b 0)).2.2.1, (pkR (pkPF b 0)).2.2.2.1, (pkR (pkPF b 0)).2.2.2.2⟩ else none := rfl
theorem acPF_ne {b : List Int} {q e : Int} (h : acPF b q = .inl e) : e ≠ 0 := by
 rw [acPF_it] at h
 unfold finA at h
 split at h
 ·rename_i h1; cases h; exact h1
 ·split at h
  ·cases h
  ·cases h; decide
theorem pkPF_ne {b : List Int} {q e : Int} (h : pkPF b q = .inl e) : e ≠ 0 := by
 unfold pkPF at h
 split at h
 ·rename_i h1; cases h; exact h1
 split at h
 ·rename_i h1; cases h; exact h1
 split at h
 ·rename_i h1; cases h; exact h1
 split at h
 ·rename_i h1; cases h; exact h1
 split at h
 ·rename_i h1; cases h; exact h1
 unfold endP at h
 split at h
 ·cases h; decide
 split at h
 ·cases h; decide
 split at h
 ·cases h
 ·cases h; decide
theorem acPF_cases (b : List Int) (hk : paK (acPF b 0) = 0) : ∃ ys to, acPF b 0 = .inr (ys, to) := by
 match h : acPF b 0 with
 | .inr (ys, to) => exact ⟨ys, to, rfl⟩
 | .inl e =>
  rw [h] at hk
  have he : e = 0 := hk
  exact absurd (acPF_ne h) (by simp [he])
theorem pkPF_cases (b : List Int) (hk : pkE (pkPF b 0) = 0) : ∃ p to, pkPF b 0 = .inr (p, to) := by
 match h : pkPF b 0 with
 | .inr (p, to) => exact ⟨p, to, rfl⟩
 | .inl e =>
  rw [h] at hk
  have he : e = 0 := hk
  exact absurd (pkPF_ne h) (by simp [he])
theorem rdPart_inv {k : Int} {b : List Int} {p : Pt} (hb : ∀ x ∈ b, 0 ≤ x ∧ x < 256) (h : rdPart k b = some p) : p.Ok ∧ p.k = k ∧ p.bs = b := by
 unfold rdPart at h
 split at h
 ·rename_i hk
  split at h
  ·rename_i h1
   obtain ⟨⟨M, ys, T, E⟩, hv⟩ : ∃ r, eparseS b 0 = r := ⟨_, rfl⟩
   rw [hv] at h1 h
   simp only at h1 h
   obtain ⟨a1, T', a2, a3, a4, a5⟩ := eparse_inv hb hv h1.1
   obtain rfl : T' = b.length := by have := h1.2; omega
   rw [List.take_length] at a5
   cases h
   refine ⟨.inl ⟨rfl, a1, ⟨rfl, rfl⟩, rfl, ⟨rfl, rfl, rfl, rfl, rfl⟩⟩, hk.symm, ?_⟩
   exact (bs_k1 rfl).trans a5
  ·cases h
 ·split at h
  ·rename_i hk
   split at h
   ·rename_i h1
    obtain ⟨a1, T', a2, a3, a4, a5⟩ := bparse_inv b hb _ rfl h1.1
    obtain rfl : T' = b.length := by have := h1.2; omega
    rw [List.take_length] at a5
    cases h
    refine ⟨.inr (.inl ⟨rfl, ⟨rfl, rfl⟩, a1, rfl, ⟨rfl, rfl, rfl, rfl, rfl⟩⟩), hk.symm, ?_⟩
    exact (bs_k2 rfl).trans a5.symm
   ·cases h
  ·split at h
   ·rename_i hk
    split at h
    ·rename_i h1
     obtain ⟨ys, to, hv⟩ := acPF_cases b h1.1
     obtain ⟨a1, T', a2, a3, a4, a5⟩ := acPF_inv hb hv
     rw [hv] at h1 h
     obtain rfl : T' = b.length := by have : to = b.length := h1.2; omega
     rw [List.take_length] at a5
     cases h
     refine ⟨.inr (.inr (.inl ⟨rfl, ⟨rfl, rfl⟩, ⟨rfl, rfl⟩, a1, ⟨rfl, rfl, rfl, rfl, rfl⟩⟩)), hk.symm, ?_⟩
     exact (bs_k3 rfl).trans a5
    ·cases h
   ·split at h
    ·rename_i hk
     split at h
     ·rename_i h1
      obtain ⟨⟨s, d, t, n, x⟩, to, hv⟩ := pkPF_cases b h1.1
      obtain ⟨a1, T', a2, a3, a4, a5⟩ := pkPF_inv hb hv
      rw [hv] at h1 h
      obtain rfl : T' = b.length := by have : to = b.length := h1.2; omega
      rw [List.take_length] at a5
      cases h
      refine ⟨.inr (.inr (.inr ⟨rfl, ⟨rfl, rfl⟩, ⟨rfl, rfl⟩, rfl, a1⟩)), hk.symm, ?_⟩
      exact (bs_k4 rfl).trans a5
     ·cases h
    ·cases h
theorem nil_of_len {α : Type} {l : List α} (h : l.length = 0) : l = [] := List.length_eq_zero_iff.1 h
theorem rdPart_fwd {p : Pt} (h : p.Ok) : rdPart p.k p.bs = some p := by
 obtain ⟨k, be, es, bn, os, ks, s, d, t, n, x⟩ := p
 unfold Pt.Ok Pt.noBe Pt.noBt Pt.noAk Pt.noPk at h
 simp only at h
 rcases h with ⟨rfl, h, ⟨rfl, h3⟩, h4, rfl, rfl, rfl, rfl, rfl⟩ | ⟨rfl, ⟨rfl, h3⟩, h, h4, rfl, rfl, rfl, rfl, rfl⟩ | ⟨rfl, ⟨rfl, h3⟩, ⟨rfl, h4⟩, h, rfl, rfl, rfl, rfl, rfl⟩ | ⟨rfl, ⟨rfl, h3⟩, ⟨rfl, h4⟩, h5, h⟩
 ·obtain rfl := nil_of_len h3
  obtain rfl := nil_of_len h4
  have e := eparse_fwd [] [] h
  simp only [List.append_nil, List.nil_append, List.length_nil] at e
  rw [bs_k1 rfl]
  show rdPart 1 (beB be es) = _
  rw [rd_k1, show (0 : Int) = ((0 : Nat) : Int) from rfl, e]
  simp
 ·obtain rfl := nil_of_len h3
  obtain rfl := nil_of_len h4
  have e := bparse_fwd [] [] bn os h
  simp only [List.append_nil, List.nil_append, List.length_nil] at e
  rw [bs_k2 rfl]
  show rdPart 2 (btB bn os) = _
  rw [rd_k2, show (0 : Int) = ((0 : Nat) : Int) from rfl, e]
  simp
 ·obtain rfl := nil_of_len h3
  obtain rfl := nil_of_len h4
  have e := acPF_fwd (f := []) (m := []) h
  simp only [List.append_nil, List.nil_append, List.length_nil] at e
  rw [bs_k3 rfl]
  show rdPart 3 (acB ks) = _
  rw [rd_k3, show (0 : Int) = ((0 : Nat) : Int) from rfl, e]
  simp [paK, paT, paY]
 ·obtain rfl := nil_of_len h3
  obtain rfl := nil_of_len h4
  obtain rfl := nil_of_len h5
  have e := pkPF_fwd (f := []) (m := []) h
  simp only [List.append_nil, List.nil_append, List.length_nil] at e
  rw [bs_k4 rfl]
  show rdPart 4 (pkB s d t n x) = _
  rw [rd_k4, show (0 : Int) = ((0 : Nat) : Int) from rfl, e]
  simp [pkE, pkT, pkR, pkB_len]
end Go.Proofs.YtjghebcnmoojmaaGreat

namespace Go.Proofs.YtjghebcnmoojmaaGreat
set_option maxRecDepth 100000
open Go.RowKit Go.WideShapes Go.ChangeShapes

theorem eqk_iff {a b c d : Int} {x : ByteArray} {a' b' c' d' : Int} {x' : ByteArray} : eqK a b c d x a' b' c' d' x' = true ↔ (a, b, c, d, x) = (a', b', c', d', x') := by simp [eqK, ByteArray.toList_eq, ByteArray.ext_iff]
structure RPt where
 k : Int
 be : Int
 a1 : Option Addr
 l1 : Nat
 c1 : Nat
 bn : Int
 a2 : Option Addr
 l2 : Nat
 c2 : Nat
 a3 : Option Addr
 l3 : Nat
 c3 : Nat
 s : Int
 d : Int
 t : Int
 n : Int
 x : ByteArray
def zR : RPt := ⟨0, 0, none, 0, 0, 0, none, 0, 0, none, 0, 0, 0, 0, 0, 0, ⟨#[]⟩⟩
def RPt.cl (r : RPt) : List Value := [.int .i64 r.k, .int .i64 r.be, .slice r.a1 r.l1 r.c1, .int .i64 r.bn, .slice r.a2 r.l2 r.c2, .slice r.a3 r.l3 r.c3, .int .i64 r.s, .int .i64 r.d, .int .i64 r.t, .int .i64 r.n, .string r.x]
theorem infoPT : (Tryz.prog.info? 50).map (fun i => (i.zero, i.size, i.bytes)) = some (some (.agg #[.int .i64 0, .int .i64 0, .slice none 0 0, .int .i64 0, .slice none 0 0, .slice none 0 0, .int .i64 0, .int .i64 0, .int .i64 0, .int .i64 0, .string ⟨#[]⟩]), 11, 144) := by kernel_rfl
theorem underPS : Tryz.prog.underlying 22 = some (.slice 50) := by kernel_rfl
theorem cellsPT : Tryz.prog.cellsOf 50 = 11 := by kernel_rfl
theorem rpt_ones (r : RPt) : ∀ u ∈ r.cl, u.oneCell' = true := by
 intro u hu
 simp only [RPt.cl, List.mem_cons, List.not_mem_nil, or_false] at hu
 rcases hu with rfl | rfl | rfl | rfl | rfl | rfl | rfl | rfl | rfl | rfl | rfl <;> rfl
noncomputable def RP : RowT where
 α := RPt
 d := zR
 cl := RPt.cl
 K := 11
 T := 50
 SL := 22
 zero := .agg #[.int .i64 0, .int .i64 0, .slice none 0 0, .int .i64 0, .slice none 0 0, .slice none 0 0, .int .i64 0, .int .i64 0, .int .i64 0, .int .i64 0, .string ⟨#[]⟩]
 bytes := 144
 hcl := fun _ => rfl
 hK := by decide
 hone := rpt_ones
 hSL := underPS
 hinfo := infoPT
 hz := rfl
 hb := by decide
 hc := cellsPT
structure RPt.Rd (w : World) (r : RPt) (p : Pt) : Prop where
 k : r.k = p.k
 be : r.be = p.be
 es : El w (.slice r.a1 r.l1 r.c1) p.es
 bn : r.bn = p.bn
 os : Os w (.slice r.a2 r.l2 r.c2) p.os
 ks : As w (.slice r.a3 r.l3 r.c3) p.ks
 s : r.s = p.s
 d : r.d = p.d
 t : r.t = p.t
 n : r.n = p.n
 x : r.x = p.x
theorem RPt.Rd.below {w w' : World} {r : RPt} {p : Pt} (h : r.Rd w p) (hb : Below w.heap.size w w') : r.Rd w' p :=
 ⟨h.k, h.be, h.es.below hb, h.bn, h.os.below hb, h.ks.below hb, h.s, h.d, h.t, h.n, h.x⟩
theorem RPt.Rd.l1 {w : World} {r : RPt} {p : Pt} (h : r.Rd w p) : r.l1 = p.es.length := by
 obtain ⟨a, c, e⟩ := h.es.1.form; simp only [Value.slice.injEq] at e; exact e.2.1
theorem RPt.Rd.l2 {w : World} {r : RPt} {p : Pt} (h : r.Rd w p) : r.l2 = p.os.length := by
 obtain ⟨a, c, e⟩ := h.os.form; simp only [Value.slice.injEq] at e; exact e.2.1
theorem RPt.Rd.l3 {w : World} {r : RPt} {p : Pt} (h : r.Rd w p) : r.l3 = p.ks.length := by
 obtain ⟨a, c, e⟩ := h.ks.form; simp only [Value.slice.injEq] at e; exact e.2.1
theorem es_nil (w : World) : Es w (.slice none 0 0) [] := Gs_nil (R := RE) w
theorem El_nil (w : World) : El w (.slice none 0 0) [] := ⟨es_nil w, fun b off len cap e i hi => by simp at hi⟩
def Ps (w : World) (v : Value) (ps : List Pt) : Prop := ∃ rs : List RPt, rs.length = ps.length ∧ Gs RP w v rs ∧ ∀ i, i < ps.length → (rs.getD i zR).Rd w (ps.getD i zPt)
theorem Ps.below {w w' : World} {v : Value} {ps : List Pt} (h : Ps w v ps) (hb : Below w.heap.size w w') : Ps w' v ps := by
 obtain ⟨rs, h1, h2, h3⟩ := h
 exact ⟨rs, h1, h2.below hb, fun i hi => (h3 i hi).below hb⟩
theorem Ps.alloc {w : World} {v : Value} {ps : List Pt} (h : Ps w v ps) (O : Obj) : Ps (w.alloc O) v ps := h.below ((Below.refl _ _).alloc (Nat.le_refl _) O)
theorem Ps.form {w : World} {v : Value} {ps : List Pt} (h : Ps w v ps) : ∃ a c, v = .slice a ps.length c := by
 obtain ⟨rs, h1, h2, _⟩ := h
 obtain ⟨a, c, e⟩ := h2.form
 exact ⟨a, c, e.trans (congrArg (fun n => Value.slice a n c) h1)⟩
def C11 (w : World) (b o : Nat) (r : RPt) : Prop := w.cell? ⟨b, o, none⟩ = some (.int .i64 r.k) ∧ w.cell? ⟨b, o + 1, none⟩ = some (.int .i64 r.be) ∧ w.cell? ⟨b, o + 2, none⟩ = some (.slice r.a1 r.l1 r.c1) ∧ w.cell? ⟨b, o + 3, none⟩ = some (.int .i64 r.bn) ∧ w.cell? ⟨b, o + 4, none⟩ = some (.slice r.a2 r.l2 r.c2) ∧ w.cell? ⟨b, o + 5, none⟩ = some (.slice r.a3 r.l3 r.c3) ∧ w.cell? ⟨b, o + 6, none⟩ = some (.int .i64 r.s) ∧ w.cell? ⟨b, o + 7, none⟩ = some (.int .i64 r.d) ∧ w.cell? ⟨b, o + 8, none⟩ = some (.int .i64 r.t) ∧ w.cell? ⟨b, o + 9, none⟩ = some (.int .i64 r.n) ∧ w.cell? ⟨b, o + 10, none⟩ = some (.string r.x)
theorem c11_of {w : World} {b o : Nat} {r : RPt} (h : GC RP w b o r) : C11 w b o r := ⟨h 0 (by decide), h 1 (by decide), h 2 (by decide), h 3 (by decide), h 4 (by decide), h 5 (by decide), h 6 (by decide), h 7 (by decide), h 8 (by decide), h 9 (by decide), h 10 (by decide)⟩
theorem Ps.at {w : World} {a : Option Addr} {c : Nat} {ps : List Pt} (h : Ps w (.slice a ps.length c) ps) {i : Nat} (hi : i < ps.length) : ∃ b off r, a = some ⟨b, off, none⟩ ∧ b < w.heap.size ∧ C11 w b (off + i * 11) r ∧ r.Rd w (ps.getD i zPt) := by
 obtain ⟨rs, h1, h2, h3⟩ := h
 rw [← h1] at h2
 have hi' : i < rs.length := by omega
 obtain ⟨b, off, e, hb, hc⟩ := Gs.at (R := RP) h2 (i := i) hi'
 exact ⟨b, off, rs.getD i zR, e, hb, c11_of hc, h3 i hi⟩
def PsOwn (w : World) (S : Nat) (v : Value) (ps : List Pt) : Prop := ∃ rs : List RPt, rs.length = ps.length ∧ w.ownsRow S 50 11 v rs.length (gflat RP rs) ∧ ∀ i, i < ps.length → (rs.getD i zR).Rd w (ps.getD i zPt)
theorem PsOwn.ps {w : World} {S : Nat} {v : Value} {ps : List Pt} (h : PsOwn w S v ps) : Ps w v ps := by
 obtain ⟨rs, h1, h2, h3⟩ := h
 exact ⟨rs, h1, (Gs_of_own (R := RP) h2).1, h3⟩
theorem PsOwn.below {w w' : World} {S : Nat} {v : Value} {ps : List Pt} (h : PsOwn w S v ps) (hb : Below w.heap.size w w') : PsOwn w' S v ps := by
 obtain ⟨rs, h1, h2, h3⟩ := h
 exact ⟨rs, h1, gown_below h2 hb, fun i hi => (h3 i hi).below hb⟩
theorem PsOwn.mono {w : World} {S B : Nat} {v : Value} {ps : List Pt} (h : PsOwn w S v ps) (hB : B ≤ S) : PsOwn w B v ps := by
 obtain ⟨rs, h1, h2, h3⟩ := h
 exact ⟨rs, h1, gown_mono h2 hB, h3⟩
theorem PsOwn.form {w : World} {S : Nat} {v : Value} {ps : List Pt} (h : PsOwn w S v ps) : ∃ a c, v = .slice a ps.length c := h.ps.form
def OwnT (w : World) (b : Nat) (r : RPt) : Prop := (w.cell? ⟨b, 0, none⟩ = some (.int .i64 r.k) ∧ w.cell? ⟨b, 1, none⟩ = some (.int .i64 r.be) ∧ w.cell? ⟨b, 2, none⟩ = some (.slice r.a1 r.l1 r.c1) ∧ w.cell? ⟨b, 3, none⟩ = some (.int .i64 r.bn) ∧ w.cell? ⟨b, 4, none⟩ = some (.slice r.a2 r.l2 r.c2) ∧ w.cell? ⟨b, 5, none⟩ = some (.slice r.a3 r.l3 r.c3) ∧ w.cell? ⟨b, 6, none⟩ = some (.int .i64 r.s) ∧ w.cell? ⟨b, 7, none⟩ = some (.int .i64 r.d) ∧ w.cell? ⟨b, 8, none⟩ = some (.int .i64 r.t) ∧ w.cell? ⟨b, 9, none⟩ = some (.int .i64 r.n) ∧ w.cell? ⟨b, 10, none⟩ = some (.string r.x)) ∧ ∀ j, w.frozen? ⟨b, j, none⟩ = false
theorem ownt_alloc (w : World) (r : RPt) (T : TypeId) (g : Nat) (hg : g = w.heap.size) : OwnT (w.alloc (.cells #[.int .i64 r.k, .int .i64 r.be, .slice r.a1 r.l1 r.c1, .int .i64 r.bn, .slice r.a2 r.l2 r.c2, .slice r.a3 r.l3 r.c3, .int .i64 r.s, .int .i64 r.d, .int .i64 r.t, .int .i64 r.n, .string r.x] T)) g r := by
 subst hg
 exact ⟨⟨by simp, by simp, by simp, by simp, by simp, by simp, by simp, by simp, by simp, by simp, by simp⟩, fun j => by simp⟩
theorem OwnT.lt {w : World} {b : Nat} {r : RPt} (h : OwnT w b r) : b < w.heap.size := World.block_lt_of_cell? w _ h.1.1
theorem C11.low {w w' : World} {b o S : Nat} {r : RPt} (h : C11 w b o r) (hb : b < S) (hB : Below S w w') : C11 w' b o r := by
 have f : ∀ {j : Nat} {v : Value}, w.cell? ⟨b, j, none⟩ = some v → w'.cell? ⟨b, j, none⟩ = some v := fun {j v} h => (hB.cell (p := ⟨b, j, none⟩) hb).trans h
 obtain ⟨h0, h1, h2, h3, h4, h5, h6, h7, h8, h9, h10⟩ := h
 exact ⟨f h0, f h1, f h2, f h3, f h4, f h5, f h6, f h7, f h8, f h9, f h10⟩
theorem C11.below {w w' : World} {b o : Nat} {r : RPt} (h : C11 w b o r) (hb : Below w.heap.size w w') : C11 w' b o r := h.low (World.block_lt_of_cell? w _ h.1) hb
theorem OwnT.low {w w' : World} {b S : Nat} {r : RPt} (h : OwnT w b r) (hb : b < S) (hB : Below S w w') : OwnT w' b r := by
 have f : ∀ {j : Nat} {v : Value}, w.cell? ⟨b, j, none⟩ = some v → w'.cell? ⟨b, j, none⟩ = some v := fun {j v} h => (hB.cell (p := ⟨b, j, none⟩) hb).trans h
 obtain ⟨⟨h0, h1, h2, h3, h4, h5, h6, h7, h8, h9, h10⟩, hf⟩ := h
 exact ⟨⟨f h0, f h1, f h2, f h3, f h4, f h5, f h6, f h7, f h8, f h9, f h10⟩, fun j => (hB.frozen (p := ⟨b, j, none⟩) hb).trans (hf j)⟩
theorem OwnT.below {w w' : World} {b : Nat} {r : RPt} (h : OwnT w b r) (hb : Below w.heap.size w w') : OwnT w' b r := h.low h.lt hb
def OwnF (w : World) (b : Nat) (fr ep to pe : Int) (v : Value) : Prop := (w.cell? ⟨b, 0, none⟩ = some (.int .i64 fr) ∧ w.cell? ⟨b, 1, none⟩ = some (.int .i64 ep) ∧ w.cell? ⟨b, 2, none⟩ = some (.int .i64 to) ∧ w.cell? ⟨b, 3, none⟩ = some (.int .i64 pe) ∧ w.cell? ⟨b, 4, none⟩ = some v) ∧ ∀ j, w.frozen? ⟨b, j, none⟩ = false
theorem ownf_alloc (w : World) (fr ep to pe : Int) (v : Value) (T : TypeId) (g : Nat) (hg : g = w.heap.size) : OwnF (w.alloc (.cells #[.int .i64 fr, .int .i64 ep, .int .i64 to, .int .i64 pe, v] T)) g fr ep to pe v := by
 subst hg
 exact ⟨⟨by simp, by simp, by simp, by simp, by simp⟩, fun j => by simp⟩
theorem OwnF.lt {w : World} {b : Nat} {fr ep to pe : Int} {v : Value} (h : OwnF w b fr ep to pe v) : b < w.heap.size := World.block_lt_of_cell? w _ h.1.1
theorem OwnF.low {w w' : World} {b S : Nat} {fr ep to pe : Int} {v : Value} (h : OwnF w b fr ep to pe v) (hb : b < S) (hB : Below S w w') : OwnF w' b fr ep to pe v := by
 have f : ∀ {j : Nat} {v : Value}, w.cell? ⟨b, j, none⟩ = some v → w'.cell? ⟨b, j, none⟩ = some v := fun {j v} h => (hB.cell (p := ⟨b, j, none⟩) hb).trans h
 obtain ⟨⟨h0, h1, h2, h3, h4⟩, hf⟩ := h
 exact ⟨⟨f h0, f h1, f h2, f h3, f h4⟩, fun j => (hB.frozen (p := ⟨b, j, none⟩) hb).trans (hf j)⟩
theorem OwnF.below {w w' : World} {b : Nat} {fr ep to pe : Int} {v : Value} (h : OwnF w b fr ep to pe v) (hb : Below w.heap.size w w') : OwnF w' b fr ep to pe v := h.low h.lt hb
theorem OwnF.set {w : World} {b : Nat} {fr ep to pe : Int} {v : Value} (h : OwnF w b fr ep to pe v) (fr' ep' to' pe' : Int) (v' : Value) : OwnF (((((w.setCell ⟨b, 0, none⟩ (.int .i64 fr')).setCell ⟨b, 1, none⟩ (.int .i64 ep')).setCell ⟨b, 2, none⟩ (.int .i64 to')).setCell ⟨b, 3, none⟩ (.int .i64 pe')).setCell ⟨b, 4, none⟩ v') b fr' ep' to' pe' v' := by
 obtain ⟨⟨h0, h1, h2, h3, h4⟩, hf⟩ := h
 refine ⟨⟨?_, ?_, ?_, ?_, ?_⟩, fun j => ?_⟩ <;> simp [go_sem, hf, h0, h1, h2, h3, h4]
theorem OwnF.set4 {w : World} {b : Nat} {fr ep to pe : Int} {v : Value} (h : OwnF w b fr ep to pe v) (v' : Value) : OwnF (w.setCell ⟨b, 4, none⟩ v') b fr ep to pe v' := by
 obtain ⟨⟨h0, h1, h2, h3, h4⟩, hf⟩ := h
 refine ⟨⟨?_, ?_, ?_, ?_, ?_⟩, fun j => ?_⟩ <;> simp [go_sem, hf, h0, h1, h2, h3, h4]
theorem bel_setf {B : Nat} {u w : World} {b : Nat} (h : Below B u w) (hB : B ≤ b) (fr ep to pe : Int) (v : Value) : Below B u (((((w.setCell ⟨b, 0, none⟩ (.int .i64 fr)).setCell ⟨b, 1, none⟩ (.int .i64 ep)).setCell ⟨b, 2, none⟩ (.int .i64 to)).setCell ⟨b, 3, none⟩ (.int .i64 pe)).setCell ⟨b, 4, none⟩ v) :=
 ((((h.setCell (p := ⟨b, 0, none⟩) hB _).setCell (p := ⟨b, 1, none⟩) hB _).setCell (p := ⟨b, 2, none⟩) hB _).setCell (p := ⟨b, 3, none⟩) hB _).setCell (p := ⟨b, 4, none⟩) hB _
end Go.Proofs.YtjghebcnmoojmaaGreat

namespace Go.Proofs.YtjghebcnmoojmaaGreat
set_option maxRecDepth 100000

def szR (r : List Int) : Nat := (256 * r.getD 1 0 + r.getD 2 0).toNat
def rdParts (r : List Int) : Option (List Pt) :=
 if r.length = 0 then some []
 else if r.length < 3 then none
 else if r.length - 3 < szR r then none
 else match rdPart (r.getD 0 0) ((r.drop 3).take (szR r)) with
  | none => none
  | some p => (rdParts (r.drop (3 + szR r))).map fun l => p :: l
termination_by r.length
decreasing_by rw [List.length_drop]; omega
theorem rdParts_nil : rdParts [] = some [] := by rw [rdParts]; rfl
theorem rdParts_short {r : List Int} (h0 : r.length ≠ 0) (h : r.length < 3) : rdParts r = none := by rw [rdParts, if_neg h0, if_pos h]
theorem rdParts_long {r : List Int} (h : 3 ≤ r.length) (hs : r.length - 3 < szR r) : rdParts r = none := by rw [rdParts, if_neg (by omega), if_neg (by omega), if_pos hs]
theorem rdParts_no {r : List Int} (h : 3 ≤ r.length) (hs : szR r ≤ r.length - 3) (hp : rdPart (r.getD 0 0) ((r.drop 3).take (szR r)) = none) : rdParts r = none := by
 rw [rdParts, if_neg (by omega), if_neg (by omega), if_neg (by omega), hp]
theorem rdParts_step {r : List Int} {p : Pt} (h : 3 ≤ r.length) (hs : szR r ≤ r.length - 3) (hp : rdPart (r.getD 0 0) ((r.drop 3).take (szR r)) = some p) : rdParts r = (rdParts (r.drop (3 + szR r))).map fun l => p :: l := by
 rw [rdParts, if_neg (by omega), if_neg (by omega), if_neg (by omega), hp]
theorem row_szR {p : Pt} {m : List Int} : szR (p.row ++ m) = p.bs.length := by
 show (256 * ((p.bs.length : Int) / 256) + (p.bs.length : Int) % 256).toNat = _
 omega
theorem rdParts_fwd : ∀ (ps : List Pt), AllP ps → rdParts (psB ps) = some ps
 | [], _ => rdParts_nil
 | p :: ps, h => by
  obtain ⟨h1, h2⟩ := allP_cons.1 h
  have ih := rdParts_fwd ps h2
  rw [psB_cons]
  have hl : (p.row ++ psB ps).length = 3 + p.bs.length + (psB ps).length := by rw [List.length_append, Pt.row_len]
  have hd : (p.row ++ psB ps).drop (3 + p.bs.length) = psB ps := by rw [← Pt.row_len]; exact List.drop_left
  have ht : ((p.row ++ psB ps).drop 3).take p.bs.length = p.bs := by
   show (p.bs ++ psB ps).take p.bs.length = p.bs
   exact List.take_left
  rw [rdParts_step (p := p) (by omega) (by rw [row_szR]; omega) (by rw [row_szR, ht]; exact rdPart_fwd h1), row_szR, hd, ih]
  rfl
theorem take3 {r : List Int} (h : 3 ≤ r.length) : r = [r.getD 0 0, r.getD 1 0, r.getD 2 0] ++ r.drop 3 := by
 match r, h with
 | a :: b :: c :: l, _ => rfl
theorem rdParts_inv : ∀ (f : Nat) (r : List Int) (ps : List Pt), r.length ≤ f → (∀ x ∈ r, 0 ≤ x ∧ x < 256) → rdParts r = some ps → AllP ps ∧ psB ps = r
 | f, r, ps, hf, hx, h => by
  by_cases h0 : r.length = 0
  ·obtain rfl := List.length_eq_zero_iff.1 h0
   rw [rdParts_nil] at h
   cases h
   exact ⟨fun i hi => absurd hi (by simp), rfl⟩
  ·by_cases h3 : r.length < 3
   ·rw [rdParts_short h0 h3] at h; cases h
   ·by_cases hs : r.length - 3 < szR r
    ·rw [rdParts_long (by omega) hs] at h; cases h
    ·match hp : rdPart (r.getD 0 0) ((r.drop 3).take (szR r)) with
     | none => rw [rdParts_no (by omega) (by omega) hp] at h; cases h
     | some p =>
      rw [rdParts_step (by omega) (by omega) hp] at h
      match hr : rdParts (r.drop (3 + szR r)) with
      | none => rw [hr] at h; cases h
      | some l =>
       rw [hr] at h
       have e : p :: l = ps := by simpa using h
       subst e
       match f, hf with
       | 0, hf => exact absurd hf (by omega)
       | f + 1, hf =>
        obtain ⟨a1, a2⟩ := rdParts_inv f (r.drop (3 + szR r)) l (by rw [List.length_drop]; omega) (fun x hx' => hx x (List.drop_subset _ _ hx')) hr
        obtain ⟨b1, b2, b3⟩ := rdPart_inv (fun x hx' => hx x (List.drop_subset _ _ (List.take_subset _ _ hx'))) hp
        refine ⟨allP_cons.2 ⟨b1, a1⟩, ?_⟩
        have h1 : 0 ≤ r.getD 1 0 ∧ r.getD 1 0 < 256 := getD_byte hx (by omega)
        have h2 : 0 ≤ r.getD 2 0 ∧ r.getD 2 0 < 256 := getD_byte hx (by omega)
        have hl : p.bs.length = szR r := by rw [b3, List.length_take, List.length_drop]; omega
        have hz : ((szR r : Nat) : Int) = 256 * r.getD 1 0 + r.getD 2 0 := by unfold szR; omega
        rw [psB_cons, a2, Pt.row, b2, hl, hz, b3]
        rw [show (256 * r.getD 1 0 + r.getD 2 0) / 256 = r.getD 1 0 by omega, show (256 * r.getD 1 0 + r.getD 2 0) % 256 = r.getD 2 0 by omega]
        conv => rhs; rw [take3 (r := r) (by omega), ← List.take_append_drop (szR r) (r.drop 3), List.drop_drop]
        rw [List.append_assoc]
structure Fr where
 fr : Int
 ep : Int
 to : Int
 pe : Int
 ps : List Pt
def zFr : Fr := ⟨0, 0, 0, 0, []⟩
def frPF (xs : List Int) : Int ⊕ Fr :=
 if xs.length < 17 then .inl 6
 else if xs.getD 0 0 ≠ 84 ∨ xs.getD 1 0 ≠ 1 then .inl 4
 else if (xs.length : Int) < segN xs 12 2 then .inl 6
 else if segN xs 12 2 < (xs.length : Int) then .inl 4
 else if segN xs (xs.length - 2) 2 ≠ sumN (xs.take (xs.length - 2)) then .inl 5
 else match rdParts ((xs.drop 15).take (xs.length - 17)) with
  | none => .inl 4
  | some ps => if (ps.length : Int) = xs.getD 14 0 ∧ FrOk (xs.getD 2 0) (segN xs 4 4) (xs.getD 3 0) (segN xs 8 4) ps then .inr ⟨xs.getD 2 0, segN xs 4 4, xs.getD 3 0, segN xs 8 4, ps⟩ else .inl 4
theorem frPF_ne {xs : List Int} {e : Int} (h : frPF xs = .inl e) : e ≠ 0 := by
 unfold frPF at h
 split at h
 ·cases h; decide
 split at h
 ·cases h; decide
 split at h
 ·cases h; decide
 split at h
 ·cases h; decide
 split at h
 ·cases h; decide
 split at h
 ·cases h; decide
 split at h
 ·cases h
 ·cases h; decide
theorem seg_two8 {xs : List Int} {k : Nat} (h : k + 2 ≤ xs.length) : segN xs k 2 = 256 * xs.getD k 0 + xs.getD (k + 1) 0 := by
 have h1 := seg_step (xs := xs) k 1 (by omega)
 have h0 := seg_step (xs := xs) k 0 (by omega)
 have hz : segN xs k 0 = 0 := rfl
 rw [h1, h0, hz]; simp
theorem last_two {xs : List Int} (h : 2 ≤ xs.length) : xs = xs.take (xs.length - 2) ++ [xs.getD (xs.length - 2) 0, xs.getD (xs.length - 1) 0] := by
 conv => lhs; rw [← List.take_append_drop (xs.length - 2) xs]
 congr 1
 apply List.ext_getElem
 ·rw [List.length_drop]; simp; omega
 ·intro i h1 h2
  have hi : i = 0 ∨ i = 1 := by simp at h2; omega
  rcases hi with rfl | rfl
  ·simp [List.getD, show xs.length - 2 < xs.length by omega]
  ·simp [List.getD, show xs.length - 1 < xs.length by omega]
   congr 1; omega
theorem head_of {xs : List Int} (hx : ∀ x ∈ xs, 0 ≤ x ∧ x < 256) (h : 15 ≤ xs.length) (h0 : xs.getD 0 0 = 84) (h1 : xs.getD 1 0 = 1) : xs.take 15 = frHead (xs.getD 2 0) (segN xs 4 4) (xs.getD 3 0) (segN xs 8 4) (segN xs 12 2) (xs.getD 14 0) := by
 have e12 : segN xs 12 2 = 256 * xs.getD 12 0 + xs.getD 13 0 := seg_two8 (xs := xs) (k := 12) (by omega)
 have b12 := getD_byte hx (k := 12) (by omega)
 have b13 := getD_byte hx (k := 13) (by omega)
 have l4 : lo (segN xs 4 4) 4 = (xs.drop 4).take 4 := by
  have := lo_be ((xs.drop 4).take 4) (seg_bytes hx 4 4)
  rw [show ((xs.drop 4).take 4).length = 4 by rw [List.length_take, List.length_drop]; omega] at this
  exact this
 have l8 : lo (segN xs 8 4) 4 = (xs.drop 8).take 4 := by
  have := lo_be ((xs.drop 8).take 4) (seg_bytes hx 8 4)
  rw [show ((xs.drop 8).take 4).length = 4 by rw [List.length_take, List.length_drop]; omega] at this
  exact this
 unfold frHead
 rw [l4, l8, e12, show (256 * xs.getD 12 0 + xs.getD 13 0) / 256 = xs.getD 12 0 by omega, show (256 * xs.getD 12 0 + xs.getD 13 0) % 256 = xs.getD 13 0 by omega, ← h0, ← h1]
 match xs, h with
 | a0 :: a1 :: a2 :: a3 :: a4 :: a5 :: a6 :: a7 :: a8 :: a9 :: a10 :: a11 :: a12 :: a13 :: a14 :: l, _ => rfl
theorem frPF_inv {xs : List Int} (hx : ∀ x ∈ xs, 0 ≤ x ∧ x < 256) {f : Fr} (h : frPF xs = .inr f) : FrOk f.fr f.ep f.to f.pe f.ps ∧ frB f.fr f.ep f.to f.pe f.ps = xs := by
 unfold frPF at h
 split at h
 ·cases h
 rename_i hl
 split at h
 ·cases h
 rename_i hm
 split at h
 ·cases h
 rename_i hn1
 split at h
 ·cases h
 rename_i hn2
 split at h
 ·cases h
 rename_i hs
 split at h
 ·cases h
 rename_i ps hps
 split at h
 ·rename_i hok
  cases h
  simp only
  refine ⟨hok.2, ?_⟩
  have hm0 : xs.getD 0 0 = 84 := by have := hm; omega
  have hm1 : xs.getD 1 0 = 1 := by have := hm; omega
  have hn : segN xs 12 2 = (xs.length : Int) := by omega
  have hs' : segN xs (xs.length - 2) 2 = sumN (xs.take (xs.length - 2)) := Classical.not_not.1 hs
  have hmid : ∀ x ∈ (xs.drop 15).take (xs.length - 17), 0 ≤ x ∧ x < 256 := fun x hx' => hx x (List.drop_subset _ _ (List.take_subset _ _ hx'))
  obtain ⟨_, hb⟩ := rdParts_inv _ _ ps (Nat.le_refl _) hmid hps
  have hbl : (psB ps).length = xs.length - 17 := by rw [hb, List.length_take, List.length_drop]; omega
  have hB0 : frB0 (xs.getD 2 0) (segN xs 4 4) (xs.getD 3 0) (segN xs 8 4) ps = xs.take (xs.length - 2) := by
   unfold frB0
   rw [hok.1, show (17 : Int) + ((psB ps).length : Int) = segN xs 12 2 by omega, ← head_of hx (by omega) hm0 hm1, hb]
   rw [show xs.length - 2 = 15 + (xs.length - 17) by omega, List.take_add]
  have e2 := seg_two8 (xs := xs) (k := xs.length - 2) (by omega)
  have c0 := getD_byte hx (k := xs.length - 2) (by omega)
  have c1 := getD_byte hx (k := xs.length - 1) (by omega)
  rw [show xs.length - 2 + 1 = xs.length - 1 by omega] at e2
  unfold frB
  rw [hB0, ← hs', e2, show (256 * xs.getD (xs.length - 2) 0 + xs.getD (xs.length - 1) 0) / 256 = xs.getD (xs.length - 2) 0 by omega, show (256 * xs.getD (xs.length - 2) 0 + xs.getD (xs.length - 1) 0) % 256 = xs.getD (xs.length - 1) 0 by omega]
  exact (last_two (by omega)).symm
 ·cases h
theorem lo4_back {v : Int} (h : EpOk v) (m : List Int) : be ((lo v 4 ++ m).take 4) = v := by
 rw [show (lo v 4 ++ m).take 4 = lo v 4 from List.take_left' (lo_len v 4), be_lo]
 obtain ⟨h0, h1⟩ := h
 rw [show pow256 4 = 4294967296 by decide]; omega
theorem head_reads {fr ep to pe n c : Int} {m xs : List Int} (hxs : xs = frHead fr ep to pe n c ++ m) (he : EpOk ep) (hp : EpOk pe) :
  xs.getD 0 0 = 84 ∧ xs.getD 1 0 = 1 ∧ xs.getD 2 0 = fr ∧ xs.getD 3 0 = to ∧ segN xs 4 4 = ep ∧ segN xs 8 4 = pe ∧ segN xs 12 2 = n ∧ xs.getD 14 0 = c := by
 subst hxs
 have d4 : (frHead fr ep to pe n c ++ m).drop 4 = lo ep 4 ++ (lo pe 4 ++ ([n / 256, n % 256, c] ++ m)) := by simp [frHead]
 have d8 : (frHead fr ep to pe n c ++ m).drop 8 = lo pe 4 ++ ([n / 256, n % 256, c] ++ m) := by
  rw [show 8 = 4 + 4 from rfl, ← List.drop_drop, d4]; exact List.drop_left' (lo_len ep 4)
 have d12 : (frHead fr ep to pe n c ++ m).drop 12 = [n / 256, n % 256, c] ++ m := by
  rw [show 12 = 8 + 4 from rfl, ← List.drop_drop, d8]; exact List.drop_left' (lo_len pe 4)
 refine ⟨rfl, rfl, rfl, rfl, ?_, ?_, ?_, ?_⟩
 ·unfold segN; rw [d4]; exact lo4_back he _
 ·unfold segN; rw [d8]; exact lo4_back hp _
 ·unfold segN; rw [d12]
  show be [n / 256, n % 256] = n
  simp [be]; omega
 ·have h14 : (frHead fr ep to pe n c ++ m).getD 14 0 = ((frHead fr ep to pe n c ++ m).drop 12).getD 2 0 := by simp [List.getD]
  rw [h14, d12]; rfl
theorem frB_eq (fr ep to pe : Int) (ps : List Pt) : frB fr ep to pe ps = frHead fr ep to pe (17 + ((psB ps).length : Int)) ps.length ++ (psB ps ++ [sumN (frB0 fr ep to pe ps) / 256, sumN (frB0 fr ep to pe ps) % 256]) := by
 rw [← List.append_assoc]; rfl
theorem frPF_fwd {fr ep to pe : Int} {ps : List Pt} (h : FrOk fr ep to pe ps) : frPF (frB fr ep to pe ps) = .inr ⟨fr, ep, to, pe, ps⟩ := by
 obtain ⟨xs, hxs⟩ : ∃ xs, frB fr ep to pe ps = xs := ⟨_, rfl⟩
 have hl := frB_len fr ep to pe ps
 have hle := h.2.2
 rw [hxs] at hl ⊢
 have hx : xs = frHead fr ep to pe (17 + ((psB ps).length : Int)) ps.length ++ (psB ps ++ [sumN (frB0 fr ep to pe ps) / 256, sumN (frB0 fr ep to pe ps) % 256]) := by
  rw [← hxs, frB_eq]
 obtain ⟨a0, a1, a2, a3, a4, a5, a6, a7⟩ := head_reads hx h.1.2.2.1 h.1.2.2.2.1
 have ht : xs.take (xs.length - 2) = frB0 fr ep to pe ps := by
  rw [← hxs, frB_len, frB]
  exact List.take_left' (by rw [frB0_len]; omega)
 have hsum : segN xs (xs.length - 2) 2 = sumN (frB0 fr ep to pe ps) := by
  unfold segN
  have hd : xs.drop (xs.length - 2) = [sumN (frB0 fr ep to pe ps) / 256, sumN (frB0 fr ep to pe ps) % 256] := by
   rw [← hxs, frB_len, frB]
   exact List.drop_left' (by rw [frB0_len]; omega)
  rw [hd]
  have := sumN_bd (frB0 fr ep to pe ps)
  show be [_, _] = _
  simp [be]; omega
 have hmid : (xs.drop 15).take (xs.length - 17) = psB ps := by
  rw [hx, List.drop_left' (frHead_len _ _ _ _ _ _)]
  exact List.take_left' (by rw [← hx, hl]; omega)
 unfold frPF
 rw [if_neg (by omega), if_neg (by rw [a0, a1]; simp), if_neg (by rw [a6, hl]; omega), if_neg (by rw [a6, hl]; omega), if_neg (by rw [hsum, ht]; simp), hmid, rdParts_fwd ps h.2.1]
 simp only
 rw [a2, a3, a4, a5, a7, if_pos ⟨rfl, h⟩]
end Go.Proofs.YtjghebcnmoojmaaGreat
