/- A part of a kind, of so many bytes: the program's filled. -/
import Derived.Test.YtjghebcnmoojmaaGreatU39
namespace Go.Proofs.YtjghebcnmoojmaaGreat
set_option maxRecDepth 100000
open Go.RowKit

def rdAtS (xs : List Int) (q k n : Int) : Option Pt := if (xs.length : Int) - q < n then none else rdPart k ((xs.drop q.toNat).take n.toNat)
def RetG (w : World) (o : Option Pt) (to : Int) (e : Ending) (w' : World) : Prop :=
 (match o with
  | none => e = .returned (.tuple #[.agg #[.int .i64 0, .int .i64 0, .slice none 0 0, .int .i64 0, .slice none 0 0, .slice none 0 0, .int .i64 0, .int .i64 0, .int .i64 0, .int .i64 0, .string ⟨#[]⟩], .int .i64 0, .int .i64 4])
  | some p => ∃ r : RPt, e = .returned (.tuple #[.agg #[.int .i64 r.k, .int .i64 r.be, .slice r.a1 r.l1 r.c1, .int .i64 r.bn, .slice r.a2 r.l2 r.c2, .slice r.a3 r.l3 r.c3, .int .i64 r.s, .int .i64 r.d, .int .i64 r.t, .int .i64 r.n, .string r.x], .int .i64 to, .int .i64 0]) ∧ r.Ow w' w.heap.size p) ∧ Below w.heap.size w w'
theorem OwnT.set0 {w : World} {b : Nat} {r : RPt} (h : OwnT w b r) (k : Int) : OwnT (w.setCell ⟨b, 0, none⟩ (.int .i64 k)) b (r.withK k) := by
 obtain ⟨⟨h0, h1, h2, h3, h4, h5, h6, h7, h8, h9, h10⟩, hf⟩ := h
 refine ⟨⟨?_, ?_, ?_, ?_, ?_, ?_, ?_, ?_, ?_, ?_, ?_⟩, fun j => ?_⟩ <;> simp [go_sem, RPt.withK, hf, h0, h1, h2, h3, h4, h5, h6, h7, h8, h9, h10]
set_option maxHeartbeats 16000000 in
theorem gfill_long (v : Value) (xs : List Int) (q k n : Int) (w : World) (hv : Bs w v xs) (hq : 0 ≤ q ∧ q ≤ xs.length) (_ : 0 ≤ n ∧ n ≤ 65535) (_ : 1 ≤ xs.length) (hl : (xs.length : Int) - q < n) : Calls Tryz.prog 55 #[v, .int .i64 q, .int .i64 k, .int .i64 n] w (RetG w (rdAtS xs q k n) (q + n)) := by
 obtain ⟨a, l, c, rfl⟩ := Bs_form hv
 obtain ⟨rfl, hlc⟩ := Bs_len2 hv
 have hsw : IntKind.i64.wrap ((xs.length : Int) - q) = (xs.length : Int) - q := by rw [IntKind.wrap_i64]; have := hv.2.1; omega
 have OR : Hid (OwnT (w.alloc (.cells #[.int .i64 0, .int .i64 0, .slice none 0 0, .int .i64 0, .slice none 0 0, .slice none 0 0, .int .i64 0, .int .i64 0, .int .i64 0, .int .i64 0, .string ⟨#[]⟩] 50)) w.heap.size (⟨0, 0, none, 0, 0, 0, none, 0, 0, none, 0, 0, 0, 0, 0, 0, ⟨#[]⟩⟩ : RPt)) := ownt_alloc w (⟨0, 0, none, 0, 0, 0, none, 0, 0, none, 0, 0, 0, 0, 0, 0, ⟨#[]⟩⟩ : RPt) 50 w.heap.size rfl
 have HB : Hid (Below w.heap.size w (w.alloc (.cells #[.int .i64 0, .int .i64 0, .slice none 0 0, .int .i64 0, .slice none 0 0, .slice none 0 0, .int .i64 0, .int .i64 0, .int .i64 0, .int .i64 0, .string ⟨#[]⟩] 50))) := (Below.refl _ w).alloc (Nat.le_refl _) _
 have HS0 : Hid ((w.alloc (.cells #[.int .i64 0, .int .i64 0, .slice none 0 0, .int .i64 0, .slice none 0 0, .slice none 0 0, .int .i64 0, .int .i64 0, .int .i64 0, .int .i64 0, .string ⟨#[]⟩] 50)).heap.size = w.heap.size + 1) := by show _ = _; simp
 have HV := Lib.hid (Bs_below hv HB.out)
 obtain ⟨V0, hV0⟩ : ∃ V0, w.alloc (.cells #[.int .i64 0, .int .i64 0, .slice none 0 0, .int .i64 0, .slice none 0 0, .slice none 0 0, .int .i64 0, .int .i64 0, .int .i64 0, .int .i64 0, .string ⟨#[]⟩] 50) = V0 := ⟨_, rfl⟩
 rw [hV0] at OR HB HV HS0
 have HV0 := Lib.hid hV0
 clear hV0
 have k2' : decide ((xs.length : Int) - q < n) = true := decide_eq_true hl
 have HO : Hid (rdAtS xs q k n = none) := if_pos hl
 clear hv hq hl hlc HV
 go_enter Tryz.func55, Tryz.ntmps55
 go_upto_region 1 with (fail)
 rw [HV0.out]
 clear HV0
 obtain ⟨⟨u0, u1, u2, u3, u4, u5, u6, u7, u8, u9, u10⟩, uf⟩ := OR.out
 go_wp2_with fail
 have hs := (OR.out.setall (⟨0, 0, none, 0, 0, 0, none, 0, 0, none, 0, 0, 0, 0, 0, 0, ⟨#[]⟩⟩ : RPt)).1
 have hbs := bel_set11 (b := w.heap.size) HB.out (Nat.le_refl _) (⟨0, 0, none, 0, 0, 0, none, 0, 0, none, 0, 0, 0, 0, 0, 0, ⟨#[]⟩⟩ : RPt)
 simp only at hs hbs
 generalize (((((((((((V0.setCell ⟨w.heap.size, 0, none⟩ (.int .i64 0)).setCell ⟨w.heap.size, 1, none⟩ (.int .i64 0)).setCell ⟨w.heap.size, 2, none⟩ (.slice none 0 0)).setCell ⟨w.heap.size, 3, none⟩ (.int .i64 0)).setCell ⟨w.heap.size, 4, none⟩ (.slice none 0 0)).setCell ⟨w.heap.size, 5, none⟩ (.slice none 0 0)).setCell ⟨w.heap.size, 6, none⟩ (.int .i64 0)).setCell ⟨w.heap.size, 7, none⟩ (.int .i64 0)).setCell ⟨w.heap.size, 8, none⟩ (.int .i64 0)).setCell ⟨w.heap.size, 9, none⟩ (.int .i64 0)).setCell ⟨w.heap.size, 10, none⟩ (.string ⟨#[]⟩)) = W5 at *
 obtain ⟨s0_, s1_, s2_, s3_, s4_, s5_, s6_, s7_, s8_, s9_, s10_⟩ := hs
 exact bodyPost_ret (v := .tuple #[.agg #[.int .i64 0, .int .i64 0, .slice none 0 0, .int .i64 0, .slice none 0 0, .slice none 0 0, .int .i64 0, .int .i64 0, .int .i64 0, .int .i64 0, .string ⟨#[]⟩], .int .i64 (0), .int .i64 4]) (by simp [results, Tryz.results55, go_sem, s0_, s1_, s2_, s3_, s4_, s5_, s6_, s7_, s8_, s9_, s10_]) rfl ⟨by rw [HO.out], hbs⟩
set_option maxHeartbeats 16000000 in
theorem gfill1 (v : Value) (xs : List Int) (q k n : Int) (w : World) (hv : Bs w v xs) (hq : 0 ≤ q ∧ q ≤ xs.length) (hn : 0 ≤ n ∧ n ≤ 65535) (h7 : 1 ≤ xs.length) (hl : ¬ (xs.length : Int) - q < n) (hk : k = 1) : Calls Tryz.prog 55 #[v, .int .i64 q, .int .i64 k, .int .i64 n] w (RetG w (rdAtS xs q k n) (q + n)) := by
 obtain ⟨a, l, c, rfl⟩ := Bs_form hv
 obtain ⟨rfl, hlc⟩ := Bs_len2 hv
 have hsw : IntKind.i64.wrap ((xs.length : Int) - q) = (xs.length : Int) - q := by rw [IntKind.wrap_i64]; have := hv.2.1; omega
 have OR : Hid (OwnT (w.alloc (.cells #[.int .i64 0, .int .i64 0, .slice none 0 0, .int .i64 0, .slice none 0 0, .slice none 0 0, .int .i64 0, .int .i64 0, .int .i64 0, .int .i64 0, .string ⟨#[]⟩] 50)) w.heap.size (⟨0, 0, none, 0, 0, 0, none, 0, 0, none, 0, 0, 0, 0, 0, 0, ⟨#[]⟩⟩ : RPt)) := ownt_alloc w (⟨0, 0, none, 0, 0, 0, none, 0, 0, none, 0, 0, 0, 0, 0, 0, ⟨#[]⟩⟩ : RPt) 50 w.heap.size rfl
 have HB : Hid (Below w.heap.size w (w.alloc (.cells #[.int .i64 0, .int .i64 0, .slice none 0 0, .int .i64 0, .slice none 0 0, .slice none 0 0, .int .i64 0, .int .i64 0, .int .i64 0, .int .i64 0, .string ⟨#[]⟩] 50))) := (Below.refl _ w).alloc (Nat.le_refl _) _
 have HS0 : Hid ((w.alloc (.cells #[.int .i64 0, .int .i64 0, .slice none 0 0, .int .i64 0, .slice none 0 0, .slice none 0 0, .int .i64 0, .int .i64 0, .int .i64 0, .int .i64 0, .string ⟨#[]⟩] 50)).heap.size = w.heap.size + 1) := by show _ = _; simp
 have HV := Lib.hid (Bs_below hv HB.out)
 obtain ⟨V0, hV0⟩ : ∃ V0, w.alloc (.cells #[.int .i64 0, .int .i64 0, .slice none 0 0, .int .i64 0, .slice none 0 0, .slice none 0 0, .int .i64 0, .int .i64 0, .int .i64 0, .int .i64 0, .string ⟨#[]⟩] 50) = V0 := ⟨_, rfl⟩
 rw [hV0] at OR HB HV HS0
 have HV0 := Lib.hid hV0
 clear hV0
 have k2' : decide ((xs.length : Int) - q < n) = false := decide_eq_false hl
 have hO : rdAtS xs q k n = rdPart k ((xs.drop q.toNat).take n.toNat) := if_neg hl
 obtain ⟨p, rfl⟩ : ∃ p : Nat, q = p := ⟨q.toNat, by omega⟩
 obtain ⟨m, rfl⟩ : ∃ m : Nat, n = m := ⟨n.toNat, by omega⟩
 rw [Int.toNat_natCast, Int.toNat_natCast] at hO
 have HO := Lib.hid hO
 have HK := Lib.hid hk
 have hpk : p + m ≤ xs.length := by omega
 obtain ⟨b, o, rfl, hcap⟩ : ∃ b o, a = some ⟨b, o, none⟩ ∧ xs.length ≤ c := by
  obtain ⟨_, _, ⟨a', c', h1, _, rfl⟩ | ⟨b, o, c', h1, h2, _⟩⟩ := hv
  ·simp at h7
  ·simp only [Value.slice.injEq, true_and] at h1; exact ⟨b, o, h1.1, by omega⟩
 have HW9 := Lib.hid (bs_win HV.out p m hpk hcap)
 obtain ⟨A9, hA9⟩ : ∃ A9, (if c = p then (some ⟨b, o, none⟩ : Option Addr) else some ⟨b, o + p, none⟩) = A9 := ⟨_, rfl⟩
 rw [hA9] at HW9
 obtain ⟨ys, hys⟩ : ∃ ys, (xs.drop p).take m = ys := ⟨_, rfl⟩
 have HYL : Hid (ys.length = m) := by show _ = _; rw [← hys, List.length_take, List.length_drop]; omega
 rw [hys] at HO HW9
 clear hys hO
 have hwk : IntKind.i64.wrap ((p : Int) + (m : Int)) = (p : Int) + (m : Int) := by rw [IntKind.wrap_i64]; have := hv.2.1; omega
 have hs0 : (0 : Int) ≤ (p : Int) := Int.natCast_nonneg _
 have hs1 : (p : Int) ≤ (p : Int) + (m : Int) := by omega
 have hs2 : (p : Int) + (m : Int) ≤ (c : Int) := by omega
 have hs3 : ((p : Int)).toNat = p := Int.toNat_natCast p
 have hs4 : ((p : Int) + (m : Int)).toNat = p + m := by omega
 have hs5 : p + m - p = m := by omega
 have cS := gparsers A9 m (c - p) V0
 have hL : (Instr.lookup 124 (.map (some (V0.heap.size + 1))) (.int .i64 k) true).run Tryz.prog ((V0.alloc (.cells #[.slice A9 m (c - p)] 26)).alloc (.map (ent4 (.func (Fn.func 90) #[] #[.pointer (some ⟨V0.heap.size, 0, none⟩)]) (.func (Fn.func 92) #[] #[.pointer (some ⟨V0.heap.size, 0, none⟩)]) (.func (Fn.func 94) #[] #[.pointer (some ⟨V0.heap.size, 0, none⟩)]) (.func (Fn.func 96) #[] #[.pointer (some ⟨V0.heap.size, 0, none⟩)])) 4)) = .ok (.tuple #[(.func (Fn.func 90) #[] #[.pointer (some ⟨V0.heap.size, 0, none⟩)]), .bool true]) ((V0.alloc (.cells #[.slice A9 m (c - p)] 26)).alloc (.map (ent4 (.func (Fn.func 90) #[] #[.pointer (some ⟨V0.heap.size, 0, none⟩)]) (.func (Fn.func 92) #[] #[.pointer (some ⟨V0.heap.size, 0, none⟩)]) (.func (Fn.func 94) #[] #[.pointer (some ⟨V0.heap.size, 0, none⟩)]) (.func (Fn.func 96) #[] #[.pointer (some ⟨V0.heap.size, 0, none⟩)])) 4)) := run_look9 underM8 underI8 _ (ent4 (.func (Fn.func 90) #[] #[.pointer (some ⟨V0.heap.size, 0, none⟩)]) (.func (Fn.func 92) #[] #[.pointer (some ⟨V0.heap.size, 0, none⟩)]) (.func (Fn.func 94) #[] #[.pointer (some ⟨V0.heap.size, 0, none⟩)]) (.func (Fn.func 96) #[] #[.pointer (some ⟨V0.heap.size, 0, none⟩)])) 4 k _ (V0.heap.size + 1) 0 (heap_last8 _ _ _ (by simp)) (by rw [hk]; exact find1 _ _ _ _)
 have HBA : Hid (Below V0.heap.size V0 ((V0.alloc (.cells #[.slice A9 m (c - p)] 26)).alloc (.map (ent4 (.func (Fn.func 90) #[] #[.pointer (some ⟨V0.heap.size, 0, none⟩)]) (.func (Fn.func 92) #[] #[.pointer (some ⟨V0.heap.size, 0, none⟩)]) (.func (Fn.func 94) #[] #[.pointer (some ⟨V0.heap.size, 0, none⟩)]) (.func (Fn.func 96) #[] #[.pointer (some ⟨V0.heap.size, 0, none⟩)])) 4))) := ((Below.refl _ V0).alloc (Nat.le_refl _) _).alloc (by simp) _
 have HCB : Hid ((((V0.alloc (.cells #[.slice A9 m (c - p)] 26)).alloc (.map (ent4 (.func (Fn.func 90) #[] #[.pointer (some ⟨V0.heap.size, 0, none⟩)]) (.func (Fn.func 92) #[] #[.pointer (some ⟨V0.heap.size, 0, none⟩)]) (.func (Fn.func 94) #[] #[.pointer (some ⟨V0.heap.size, 0, none⟩)]) (.func (Fn.func 96) #[] #[.pointer (some ⟨V0.heap.size, 0, none⟩)])) 4))).cell? ⟨V0.heap.size, 0, none⟩ = some (.slice A9 m (c - p))) := by show _ = _; simp
 have HB1 := Lib.hid (HB.out.trans (HBA.out.mono HB.out.size))
 have OR1 := Lib.hid (OR.out.below HBA.out)
 have HW1 := Lib.hid (Bs_below HW9.out HBA.out)
 have HS1 : Hid (w.heap.size < (((V0.alloc (.cells #[.slice A9 m (c - p)] 26)).alloc (.map (ent4 (.func (Fn.func 90) #[] #[.pointer (some ⟨V0.heap.size, 0, none⟩)]) (.func (Fn.func 92) #[] #[.pointer (some ⟨V0.heap.size, 0, none⟩)]) (.func (Fn.func 94) #[] #[.pointer (some ⟨V0.heap.size, 0, none⟩)]) (.func (Fn.func 96) #[] #[.pointer (some ⟨V0.heap.size, 0, none⟩)])) 4))).heap.size) := OR1.out.lt
 clear hv hq hn hl hk h7 hpk hcap hlc HV HW9 OR
 go_enter Tryz.func55, Tryz.ntmps55
 go_upto_region 1 with (fail)
 rw [HV0.out]
 clear HV0
 go_wp2_with fail
 refine cS.mono ?_
 rintro e w9 ⟨rfl, rfl⟩
 clear cS hA9
 have HRD : Hid (rdPart k ys = if rcK 1 ys = 0 ∧ rcT 1 ys = m then some ((rcP 1 ys).withK k) else none) := by
  show _ = _
  rw [HK.out, rd_rc (by decide), HYL.out]
 go_upto_region 6 with (fail)
 obtain ⟨V1, hV1⟩ : ∃ V1, ((V0.alloc (.cells #[.slice A9 m (c - p)] 26)).alloc (.map (ent4 (.func (Fn.func 90) #[] #[.pointer (some ⟨V0.heap.size, 0, none⟩)]) (.func (Fn.func 92) #[] #[.pointer (some ⟨V0.heap.size, 0, none⟩)]) (.func (Fn.func 94) #[] #[.pointer (some ⟨V0.heap.size, 0, none⟩)]) (.func (Fn.func 96) #[] #[.pointer (some ⟨V0.heap.size, 0, none⟩)])) 4)) = V1 := ⟨_, rfl⟩
 rw [hV1] at HB1 OR1 HW1 HCB HS1 ⊢
 clear hL hV1 HBA
 have cP := gpc1 V0.heap.size _ ys V1 HCB.out HW1.out
 generalize rcT 1 ys = T9 at *
 generalize rcK 1 ys = K9 at *
 generalize rcP 1 ys = P9 at *
 go_wp2_with fail
 refine cP.mono ?_
 rintro e V2 ⟨⟨r, rfl, ho⟩, hb⟩
 have HB2 := Lib.hid (HB1.out.trans (hb.mono HB1.out.size))
 have OR2 := Lib.hid (OR1.out.below hb)
 have HOW := Lib.hid ho
 clear hb ho cP HCB HW1
 have hal := (Below.refl V2.heap.size V2).alloc (Nat.le_refl _) (.cells #[.int .i64 r.k, .int .i64 r.be, .slice r.a1 r.l1 r.c1, .int .i64 r.bn, .slice r.a2 r.l2 r.c2, .slice r.a3 r.l3 r.c3, .int .i64 r.s, .int .i64 r.d, .int .i64 r.t, .int .i64 r.n, .string r.x] 50)
 have HB3 := Lib.hid (HB2.out.trans (hal.mono HB2.out.size))
 have OR3 := Lib.hid (OR2.out.below hal)
 have HO3 := Lib.hid (HOW.out.below hal)
 have HBV := Lib.hid hal
 clear hal
 obtain ⟨gv, hgv⟩ : ∃ g, V2.heap.size = g := ⟨_, rfl⟩
 have OV : Hid (OwnT (V2.alloc (.cells #[.int .i64 r.k, .int .i64 r.be, .slice r.a1 r.l1 r.c1, .int .i64 r.bn, .slice r.a2 r.l2 r.c2, .slice r.a3 r.l3 r.c3, .int .i64 r.s, .int .i64 r.d, .int .i64 r.t, .int .i64 r.n, .string r.x] 50)) gv r) := ownt_alloc V2 r 50 gv hgv.symm
 have HGV : Hid (w.heap.size < gv) := by rw [← hgv]; exact OR2.out.lt
 have HGE := Lib.hid hgv
 clear hgv
 go_upto_region 7 with (fail)
 rw [HGE.out]
 obtain ⟨V3, hV3⟩ : ∃ V3, V2.alloc (.cells #[.int .i64 r.k, .int .i64 r.be, .slice r.a1 r.l1 r.c1, .int .i64 r.bn, .slice r.a2 r.l2 r.c2, .slice r.a3 r.l3 r.c3, .int .i64 r.s, .int .i64 r.d, .int .i64 r.t, .int .i64 r.n, .string r.x] 50) = V3 := ⟨_, rfl⟩
 rw [hV3] at HB3 OR3 HO3 OV HBV
 rw [hV3]
 clear hV3
 have hgn1 : gv ≠ w.heap.size := by have := HGV.out; omega
 have hgn2 : w.heap.size ≠ gv := by have := HGV.out; omega
 by_cases hK : K9 = 0
 rotate_left
 ·have hK' : (K9 != 0) = true := by simpa using hK
  have HN : Hid (rdAtS xs p k m = none) := by
   show _ = _
   rw [HO.out, HRD.out]; exact if_neg (fun h => hK h.1)
  clear hK
  obtain ⟨⟨u0, u1, u2, u3, u4, u5, u6, u7, u8, u9, u10⟩, uf⟩ := OR3.out
  go_wp2_with fail
  have hs := (OR3.out.setall (⟨0, 0, none, 0, 0, 0, none, 0, 0, none, 0, 0, 0, 0, 0, 0, ⟨#[]⟩⟩ : RPt)).1
  have hbs := bel_set11 (b := w.heap.size) HB3.out (Nat.le_refl _) (⟨0, 0, none, 0, 0, 0, none, 0, 0, none, 0, 0, 0, 0, 0, 0, ⟨#[]⟩⟩ : RPt)
  simp only at hs hbs
  generalize (((((((((((V3.setCell ⟨w.heap.size, 0, none⟩ (.int .i64 0)).setCell ⟨w.heap.size, 1, none⟩ (.int .i64 0)).setCell ⟨w.heap.size, 2, none⟩ (.slice none 0 0)).setCell ⟨w.heap.size, 3, none⟩ (.int .i64 0)).setCell ⟨w.heap.size, 4, none⟩ (.slice none 0 0)).setCell ⟨w.heap.size, 5, none⟩ (.slice none 0 0)).setCell ⟨w.heap.size, 6, none⟩ (.int .i64 0)).setCell ⟨w.heap.size, 7, none⟩ (.int .i64 0)).setCell ⟨w.heap.size, 8, none⟩ (.int .i64 0)).setCell ⟨w.heap.size, 9, none⟩ (.int .i64 0)).setCell ⟨w.heap.size, 10, none⟩ (.string ⟨#[]⟩)) = W5 at *
  obtain ⟨s0_, s1_, s2_, s3_, s4_, s5_, s6_, s7_, s8_, s9_, s10_⟩ := hs
  exact bodyPost_ret (v := .tuple #[.agg #[.int .i64 0, .int .i64 0, .slice none 0 0, .int .i64 0, .slice none 0 0, .slice none 0 0, .int .i64 0, .int .i64 0, .int .i64 0, .int .i64 0, .string ⟨#[]⟩], .int .i64 (0), .int .i64 4]) (by simp [results, Tryz.results55, go_sem, s0_, s1_, s2_, s3_, s4_, s5_, s6_, s7_, s8_, s9_, s10_]) rfl ⟨by rw [HN.out], hbs⟩
 have hK' : (K9 != 0) = false := by simpa using hK
 by_cases hT : T9 = (m : Int)
 rotate_left
 ·have hT' : (T9 != (m : Int)) = true := by simpa using hT
  have HN : Hid (rdAtS xs p k m = none) := by
   show _ = _
   rw [HO.out, HRD.out]; exact if_neg (fun h => hT h.2)
  clear hK hT
  obtain ⟨⟨u0, u1, u2, u3, u4, u5, u6, u7, u8, u9, u10⟩, uf⟩ := OR3.out
  go_wp2_with fail
  have hs := (OR3.out.setall (⟨0, 0, none, 0, 0, 0, none, 0, 0, none, 0, 0, 0, 0, 0, 0, ⟨#[]⟩⟩ : RPt)).1
  have hbs := bel_set11 (b := w.heap.size) HB3.out (Nat.le_refl _) (⟨0, 0, none, 0, 0, 0, none, 0, 0, none, 0, 0, 0, 0, 0, 0, ⟨#[]⟩⟩ : RPt)
  simp only at hs hbs
  generalize (((((((((((V3.setCell ⟨w.heap.size, 0, none⟩ (.int .i64 0)).setCell ⟨w.heap.size, 1, none⟩ (.int .i64 0)).setCell ⟨w.heap.size, 2, none⟩ (.slice none 0 0)).setCell ⟨w.heap.size, 3, none⟩ (.int .i64 0)).setCell ⟨w.heap.size, 4, none⟩ (.slice none 0 0)).setCell ⟨w.heap.size, 5, none⟩ (.slice none 0 0)).setCell ⟨w.heap.size, 6, none⟩ (.int .i64 0)).setCell ⟨w.heap.size, 7, none⟩ (.int .i64 0)).setCell ⟨w.heap.size, 8, none⟩ (.int .i64 0)).setCell ⟨w.heap.size, 9, none⟩ (.int .i64 0)).setCell ⟨w.heap.size, 10, none⟩ (.string ⟨#[]⟩)) = W5 at *
  obtain ⟨s0_, s1_, s2_, s3_, s4_, s5_, s6_, s7_, s8_, s9_, s10_⟩ := hs
  exact bodyPost_ret (v := .tuple #[.agg #[.int .i64 0, .int .i64 0, .slice none 0 0, .int .i64 0, .slice none 0 0, .slice none 0 0, .int .i64 0, .int .i64 0, .int .i64 0, .int .i64 0, .string ⟨#[]⟩], .int .i64 (0), .int .i64 4]) (by simp [results, Tryz.results55, go_sem, s0_, s1_, s2_, s3_, s4_, s5_, s6_, s7_, s8_, s9_, s10_]) rfl ⟨by rw [HN.out], hbs⟩
 have hT' : (T9 != (m : Int)) = false := by simpa using hT
 have HN : Hid (rdAtS xs p k m = some (P9.withK k)) := by
  show _ = _
  rw [HO.out, HRD.out]; exact if_pos ⟨hK, hT⟩
 clear hK hT
 have OV4 := Lib.hid (OV.out.set0 k)
 have HBV4 : Hid (Below V2.heap.size V2 (V3.setCell ⟨gv, 0, none⟩ (.int .i64 k))) := HBV.out.setCell (p := ⟨gv, 0, none⟩) (Nat.le_of_eq HGE.out) _
 have HB4 : Hid (Below w.heap.size w (V3.setCell ⟨gv, 0, none⟩ (.int .i64 k))) := HB3.out.setCell (p := ⟨gv, 0, none⟩) (Nat.le_of_lt HGV.out) _
 have OR4 := Lib.hid (OR2.out.below HBV4.out)
 have HO4 := Lib.hid ((HOW.out.withK k).below HBV4.out)
 obtain ⟨⟨v0, v1, v2, v3, v4, v5, v6, v7, v8, v9, v10⟩, vf⟩ := OV.out
 go_upto_region 10 with (fail)
 clear v0 v1 v2 v3 v4 v5 v6 v7 v8 v9 v10 vf
 obtain ⟨V4, hV4⟩ : ∃ V4, V3.setCell ⟨gv, 0, none⟩ (.int .i64 k) = V4 := ⟨_, rfl⟩
 rw [hV4] at OV4 HBV4 HB4 OR4 HO4 ⊢
 clear hV4
 obtain ⟨⟨u0, u1, u2, u3, u4, u5, u6, u7, u8, u9, u10⟩, uf⟩ := OR4.out
 obtain ⟨⟨v0, v1, v2, v3, v4, v5, v6, v7, v8, v9, v10⟩, vf⟩ := OV4.out
 simp only [RPt.withK] at v0 v1 v2 v3 v4 v5 v6 v7 v8 v9 v10
 go_wp2_with fail
 have hs := (OR4.out.setall (r.withK k)).1
 have hbs := bel_set11 (b := w.heap.size) HB4.out (Nat.le_refl _) (r.withK k)
 have hho := ow_set11 HO4.out (b := w.heap.size) HS1.out (r.withK k)
 simp only [RPt.withK] at hs hbs hho
 generalize (((((((((((V4.setCell ⟨w.heap.size, 0, none⟩ (.int .i64 k)).setCell ⟨w.heap.size, 1, none⟩ (.int .i64 r.be)).setCell ⟨w.heap.size, 2, none⟩ (.slice r.a1 r.l1 r.c1)).setCell ⟨w.heap.size, 3, none⟩ (.int .i64 r.bn)).setCell ⟨w.heap.size, 4, none⟩ (.slice r.a2 r.l2 r.c2)).setCell ⟨w.heap.size, 5, none⟩ (.slice r.a3 r.l3 r.c3)).setCell ⟨w.heap.size, 6, none⟩ (.int .i64 r.s)).setCell ⟨w.heap.size, 7, none⟩ (.int .i64 r.d)).setCell ⟨w.heap.size, 8, none⟩ (.int .i64 r.t)).setCell ⟨w.heap.size, 9, none⟩ (.int .i64 r.n)).setCell ⟨w.heap.size, 10, none⟩ (.string r.x)) = W5 at *
 obtain ⟨s0_, s1_, s2_, s3_, s4_, s5_, s6_, s7_, s8_, s9_, s10_⟩ := hs
 exact bodyPost_ret (v := .tuple #[.agg #[.int .i64 k, .int .i64 r.be, .slice r.a1 r.l1 r.c1, .int .i64 r.bn, .slice r.a2 r.l2 r.c2, .slice r.a3 r.l3 r.c3, .int .i64 r.s, .int .i64 r.d, .int .i64 r.t, .int .i64 r.n, .string r.x], .int .i64 ((p : Int) + (m : Int)), .int .i64 0]) (by simp [results, Tryz.results55, go_sem, s0_, s1_, s2_, s3_, s4_, s5_, s6_, s7_, s8_, s9_, s10_]) rfl ⟨by rw [HN.out]; exact ⟨r.withK k, rfl, hho.mono (Nat.le_of_lt HS1.out)⟩, hbs⟩
set_option maxHeartbeats 16000000 in
theorem gfill2 (v : Value) (xs : List Int) (q k n : Int) (w : World) (hv : Bs w v xs) (hq : 0 ≤ q ∧ q ≤ xs.length) (hn : 0 ≤ n ∧ n ≤ 65535) (h7 : 1 ≤ xs.length) (hl : ¬ (xs.length : Int) - q < n) (hk : k = 2) : Calls Tryz.prog 55 #[v, .int .i64 q, .int .i64 k, .int .i64 n] w (RetG w (rdAtS xs q k n) (q + n)) := by
 obtain ⟨a, l, c, rfl⟩ := Bs_form hv
 obtain ⟨rfl, hlc⟩ := Bs_len2 hv
 have hsw : IntKind.i64.wrap ((xs.length : Int) - q) = (xs.length : Int) - q := by rw [IntKind.wrap_i64]; have := hv.2.1; omega
 have OR : Hid (OwnT (w.alloc (.cells #[.int .i64 0, .int .i64 0, .slice none 0 0, .int .i64 0, .slice none 0 0, .slice none 0 0, .int .i64 0, .int .i64 0, .int .i64 0, .int .i64 0, .string ⟨#[]⟩] 50)) w.heap.size (⟨0, 0, none, 0, 0, 0, none, 0, 0, none, 0, 0, 0, 0, 0, 0, ⟨#[]⟩⟩ : RPt)) := ownt_alloc w (⟨0, 0, none, 0, 0, 0, none, 0, 0, none, 0, 0, 0, 0, 0, 0, ⟨#[]⟩⟩ : RPt) 50 w.heap.size rfl
 have HB : Hid (Below w.heap.size w (w.alloc (.cells #[.int .i64 0, .int .i64 0, .slice none 0 0, .int .i64 0, .slice none 0 0, .slice none 0 0, .int .i64 0, .int .i64 0, .int .i64 0, .int .i64 0, .string ⟨#[]⟩] 50))) := (Below.refl _ w).alloc (Nat.le_refl _) _
 have HS0 : Hid ((w.alloc (.cells #[.int .i64 0, .int .i64 0, .slice none 0 0, .int .i64 0, .slice none 0 0, .slice none 0 0, .int .i64 0, .int .i64 0, .int .i64 0, .int .i64 0, .string ⟨#[]⟩] 50)).heap.size = w.heap.size + 1) := by show _ = _; simp
 have HV := Lib.hid (Bs_below hv HB.out)
 obtain ⟨V0, hV0⟩ : ∃ V0, w.alloc (.cells #[.int .i64 0, .int .i64 0, .slice none 0 0, .int .i64 0, .slice none 0 0, .slice none 0 0, .int .i64 0, .int .i64 0, .int .i64 0, .int .i64 0, .string ⟨#[]⟩] 50) = V0 := ⟨_, rfl⟩
 rw [hV0] at OR HB HV HS0
 have HV0 := Lib.hid hV0
 clear hV0
 have k2' : decide ((xs.length : Int) - q < n) = false := decide_eq_false hl
 have hO : rdAtS xs q k n = rdPart k ((xs.drop q.toNat).take n.toNat) := if_neg hl
 obtain ⟨p, rfl⟩ : ∃ p : Nat, q = p := ⟨q.toNat, by omega⟩
 obtain ⟨m, rfl⟩ : ∃ m : Nat, n = m := ⟨n.toNat, by omega⟩
 rw [Int.toNat_natCast, Int.toNat_natCast] at hO
 have HO := Lib.hid hO
 have HK := Lib.hid hk
 have hpk : p + m ≤ xs.length := by omega
 obtain ⟨b, o, rfl, hcap⟩ : ∃ b o, a = some ⟨b, o, none⟩ ∧ xs.length ≤ c := by
  obtain ⟨_, _, ⟨a', c', h1, _, rfl⟩ | ⟨b, o, c', h1, h2, _⟩⟩ := hv
  ·simp at h7
  ·simp only [Value.slice.injEq, true_and] at h1; exact ⟨b, o, h1.1, by omega⟩
 have HW9 := Lib.hid (bs_win HV.out p m hpk hcap)
 obtain ⟨A9, hA9⟩ : ∃ A9, (if c = p then (some ⟨b, o, none⟩ : Option Addr) else some ⟨b, o + p, none⟩) = A9 := ⟨_, rfl⟩
 rw [hA9] at HW9
 obtain ⟨ys, hys⟩ : ∃ ys, (xs.drop p).take m = ys := ⟨_, rfl⟩
 have HYL : Hid (ys.length = m) := by show _ = _; rw [← hys, List.length_take, List.length_drop]; omega
 rw [hys] at HO HW9
 clear hys hO
 have hwk : IntKind.i64.wrap ((p : Int) + (m : Int)) = (p : Int) + (m : Int) := by rw [IntKind.wrap_i64]; have := hv.2.1; omega
 have hs0 : (0 : Int) ≤ (p : Int) := Int.natCast_nonneg _
 have hs1 : (p : Int) ≤ (p : Int) + (m : Int) := by omega
 have hs2 : (p : Int) + (m : Int) ≤ (c : Int) := by omega
 have hs3 : ((p : Int)).toNat = p := Int.toNat_natCast p
 have hs4 : ((p : Int) + (m : Int)).toNat = p + m := by omega
 have hs5 : p + m - p = m := by omega
 have cS := gparsers A9 m (c - p) V0
 have hL : (Instr.lookup 124 (.map (some (V0.heap.size + 1))) (.int .i64 k) true).run Tryz.prog ((V0.alloc (.cells #[.slice A9 m (c - p)] 26)).alloc (.map (ent4 (.func (Fn.func 90) #[] #[.pointer (some ⟨V0.heap.size, 0, none⟩)]) (.func (Fn.func 92) #[] #[.pointer (some ⟨V0.heap.size, 0, none⟩)]) (.func (Fn.func 94) #[] #[.pointer (some ⟨V0.heap.size, 0, none⟩)]) (.func (Fn.func 96) #[] #[.pointer (some ⟨V0.heap.size, 0, none⟩)])) 4)) = .ok (.tuple #[(.func (Fn.func 92) #[] #[.pointer (some ⟨V0.heap.size, 0, none⟩)]), .bool true]) ((V0.alloc (.cells #[.slice A9 m (c - p)] 26)).alloc (.map (ent4 (.func (Fn.func 90) #[] #[.pointer (some ⟨V0.heap.size, 0, none⟩)]) (.func (Fn.func 92) #[] #[.pointer (some ⟨V0.heap.size, 0, none⟩)]) (.func (Fn.func 94) #[] #[.pointer (some ⟨V0.heap.size, 0, none⟩)]) (.func (Fn.func 96) #[] #[.pointer (some ⟨V0.heap.size, 0, none⟩)])) 4)) := run_look9 underM8 underI8 _ (ent4 (.func (Fn.func 90) #[] #[.pointer (some ⟨V0.heap.size, 0, none⟩)]) (.func (Fn.func 92) #[] #[.pointer (some ⟨V0.heap.size, 0, none⟩)]) (.func (Fn.func 94) #[] #[.pointer (some ⟨V0.heap.size, 0, none⟩)]) (.func (Fn.func 96) #[] #[.pointer (some ⟨V0.heap.size, 0, none⟩)])) 4 k _ (V0.heap.size + 1) 1 (heap_last8 _ _ _ (by simp)) (by rw [hk]; exact find2 _ _ _ _)
 have HBA : Hid (Below V0.heap.size V0 ((V0.alloc (.cells #[.slice A9 m (c - p)] 26)).alloc (.map (ent4 (.func (Fn.func 90) #[] #[.pointer (some ⟨V0.heap.size, 0, none⟩)]) (.func (Fn.func 92) #[] #[.pointer (some ⟨V0.heap.size, 0, none⟩)]) (.func (Fn.func 94) #[] #[.pointer (some ⟨V0.heap.size, 0, none⟩)]) (.func (Fn.func 96) #[] #[.pointer (some ⟨V0.heap.size, 0, none⟩)])) 4))) := ((Below.refl _ V0).alloc (Nat.le_refl _) _).alloc (by simp) _
 have HCB : Hid ((((V0.alloc (.cells #[.slice A9 m (c - p)] 26)).alloc (.map (ent4 (.func (Fn.func 90) #[] #[.pointer (some ⟨V0.heap.size, 0, none⟩)]) (.func (Fn.func 92) #[] #[.pointer (some ⟨V0.heap.size, 0, none⟩)]) (.func (Fn.func 94) #[] #[.pointer (some ⟨V0.heap.size, 0, none⟩)]) (.func (Fn.func 96) #[] #[.pointer (some ⟨V0.heap.size, 0, none⟩)])) 4))).cell? ⟨V0.heap.size, 0, none⟩ = some (.slice A9 m (c - p))) := by show _ = _; simp
 have HB1 := Lib.hid (HB.out.trans (HBA.out.mono HB.out.size))
 have OR1 := Lib.hid (OR.out.below HBA.out)
 have HW1 := Lib.hid (Bs_below HW9.out HBA.out)
 have HS1 : Hid (w.heap.size < (((V0.alloc (.cells #[.slice A9 m (c - p)] 26)).alloc (.map (ent4 (.func (Fn.func 90) #[] #[.pointer (some ⟨V0.heap.size, 0, none⟩)]) (.func (Fn.func 92) #[] #[.pointer (some ⟨V0.heap.size, 0, none⟩)]) (.func (Fn.func 94) #[] #[.pointer (some ⟨V0.heap.size, 0, none⟩)]) (.func (Fn.func 96) #[] #[.pointer (some ⟨V0.heap.size, 0, none⟩)])) 4))).heap.size) := OR1.out.lt
 clear hv hq hn hl hk h7 hpk hcap hlc HV HW9 OR
 go_enter Tryz.func55, Tryz.ntmps55
 go_upto_region 1 with (fail)
 rw [HV0.out]
 clear HV0
 go_wp2_with fail
 refine cS.mono ?_
 rintro e w9 ⟨rfl, rfl⟩
 clear cS hA9
 have HRD : Hid (rdPart k ys = if rcK 2 ys = 0 ∧ rcT 2 ys = m then some ((rcP 2 ys).withK k) else none) := by
  show _ = _
  rw [HK.out, rd_rc (by decide), HYL.out]
 go_upto_region 6 with (fail)
 obtain ⟨V1, hV1⟩ : ∃ V1, ((V0.alloc (.cells #[.slice A9 m (c - p)] 26)).alloc (.map (ent4 (.func (Fn.func 90) #[] #[.pointer (some ⟨V0.heap.size, 0, none⟩)]) (.func (Fn.func 92) #[] #[.pointer (some ⟨V0.heap.size, 0, none⟩)]) (.func (Fn.func 94) #[] #[.pointer (some ⟨V0.heap.size, 0, none⟩)]) (.func (Fn.func 96) #[] #[.pointer (some ⟨V0.heap.size, 0, none⟩)])) 4)) = V1 := ⟨_, rfl⟩
 rw [hV1] at HB1 OR1 HW1 HCB HS1 ⊢
 clear hL hV1 HBA
 have cP := gpc2 V0.heap.size _ ys V1 HCB.out HW1.out
 generalize rcT 2 ys = T9 at *
 generalize rcK 2 ys = K9 at *
 generalize rcP 2 ys = P9 at *
 go_wp2_with fail
 refine cP.mono ?_
 rintro e V2 ⟨⟨r, rfl, ho⟩, hb⟩
 have HB2 := Lib.hid (HB1.out.trans (hb.mono HB1.out.size))
 have OR2 := Lib.hid (OR1.out.below hb)
 have HOW := Lib.hid ho
 clear hb ho cP HCB HW1
 have hal := (Below.refl V2.heap.size V2).alloc (Nat.le_refl _) (.cells #[.int .i64 r.k, .int .i64 r.be, .slice r.a1 r.l1 r.c1, .int .i64 r.bn, .slice r.a2 r.l2 r.c2, .slice r.a3 r.l3 r.c3, .int .i64 r.s, .int .i64 r.d, .int .i64 r.t, .int .i64 r.n, .string r.x] 50)
 have HB3 := Lib.hid (HB2.out.trans (hal.mono HB2.out.size))
 have OR3 := Lib.hid (OR2.out.below hal)
 have HO3 := Lib.hid (HOW.out.below hal)
 have HBV := Lib.hid hal
 clear hal
 obtain ⟨gv, hgv⟩ : ∃ g, V2.heap.size = g := ⟨_, rfl⟩
 have OV : Hid (OwnT (V2.alloc (.cells #[.int .i64 r.k, .int .i64 r.be, .slice r.a1 r.l1 r.c1, .int .i64 r.bn, .slice r.a2 r.l2 r.c2, .slice r.a3 r.l3 r.c3, .int .i64 r.s, .int .i64 r.d, .int .i64 r.t, .int .i64 r.n, .string r.x] 50)) gv r) := ownt_alloc V2 r 50 gv hgv.symm
 have HGV : Hid (w.heap.size < gv) := by rw [← hgv]; exact OR2.out.lt
 have HGE := Lib.hid hgv
 clear hgv
 go_upto_region 7 with (fail)
 rw [HGE.out]
 obtain ⟨V3, hV3⟩ : ∃ V3, V2.alloc (.cells #[.int .i64 r.k, .int .i64 r.be, .slice r.a1 r.l1 r.c1, .int .i64 r.bn, .slice r.a2 r.l2 r.c2, .slice r.a3 r.l3 r.c3, .int .i64 r.s, .int .i64 r.d, .int .i64 r.t, .int .i64 r.n, .string r.x] 50) = V3 := ⟨_, rfl⟩
 rw [hV3] at HB3 OR3 HO3 OV HBV
 rw [hV3]
 clear hV3
 have hgn1 : gv ≠ w.heap.size := by have := HGV.out; omega
 have hgn2 : w.heap.size ≠ gv := by have := HGV.out; omega
 by_cases hK : K9 = 0
 rotate_left
 ·have hK' : (K9 != 0) = true := by simpa using hK
  have HN : Hid (rdAtS xs p k m = none) := by
   show _ = _
   rw [HO.out, HRD.out]; exact if_neg (fun h => hK h.1)
  clear hK
  obtain ⟨⟨u0, u1, u2, u3, u4, u5, u6, u7, u8, u9, u10⟩, uf⟩ := OR3.out
  go_wp2_with fail
  have hs := (OR3.out.setall (⟨0, 0, none, 0, 0, 0, none, 0, 0, none, 0, 0, 0, 0, 0, 0, ⟨#[]⟩⟩ : RPt)).1
  have hbs := bel_set11 (b := w.heap.size) HB3.out (Nat.le_refl _) (⟨0, 0, none, 0, 0, 0, none, 0, 0, none, 0, 0, 0, 0, 0, 0, ⟨#[]⟩⟩ : RPt)
  simp only at hs hbs
  generalize (((((((((((V3.setCell ⟨w.heap.size, 0, none⟩ (.int .i64 0)).setCell ⟨w.heap.size, 1, none⟩ (.int .i64 0)).setCell ⟨w.heap.size, 2, none⟩ (.slice none 0 0)).setCell ⟨w.heap.size, 3, none⟩ (.int .i64 0)).setCell ⟨w.heap.size, 4, none⟩ (.slice none 0 0)).setCell ⟨w.heap.size, 5, none⟩ (.slice none 0 0)).setCell ⟨w.heap.size, 6, none⟩ (.int .i64 0)).setCell ⟨w.heap.size, 7, none⟩ (.int .i64 0)).setCell ⟨w.heap.size, 8, none⟩ (.int .i64 0)).setCell ⟨w.heap.size, 9, none⟩ (.int .i64 0)).setCell ⟨w.heap.size, 10, none⟩ (.string ⟨#[]⟩)) = W5 at *
  obtain ⟨s0_, s1_, s2_, s3_, s4_, s5_, s6_, s7_, s8_, s9_, s10_⟩ := hs
  exact bodyPost_ret (v := .tuple #[.agg #[.int .i64 0, .int .i64 0, .slice none 0 0, .int .i64 0, .slice none 0 0, .slice none 0 0, .int .i64 0, .int .i64 0, .int .i64 0, .int .i64 0, .string ⟨#[]⟩], .int .i64 (0), .int .i64 4]) (by simp [results, Tryz.results55, go_sem, s0_, s1_, s2_, s3_, s4_, s5_, s6_, s7_, s8_, s9_, s10_]) rfl ⟨by rw [HN.out], hbs⟩
 have hK' : (K9 != 0) = false := by simpa using hK
 by_cases hT : T9 = (m : Int)
 rotate_left
 ·have hT' : (T9 != (m : Int)) = true := by simpa using hT
  have HN : Hid (rdAtS xs p k m = none) := by
   show _ = _
   rw [HO.out, HRD.out]; exact if_neg (fun h => hT h.2)
  clear hK hT
  obtain ⟨⟨u0, u1, u2, u3, u4, u5, u6, u7, u8, u9, u10⟩, uf⟩ := OR3.out
  go_wp2_with fail
  have hs := (OR3.out.setall (⟨0, 0, none, 0, 0, 0, none, 0, 0, none, 0, 0, 0, 0, 0, 0, ⟨#[]⟩⟩ : RPt)).1
  have hbs := bel_set11 (b := w.heap.size) HB3.out (Nat.le_refl _) (⟨0, 0, none, 0, 0, 0, none, 0, 0, none, 0, 0, 0, 0, 0, 0, ⟨#[]⟩⟩ : RPt)
  simp only at hs hbs
  generalize (((((((((((V3.setCell ⟨w.heap.size, 0, none⟩ (.int .i64 0)).setCell ⟨w.heap.size, 1, none⟩ (.int .i64 0)).setCell ⟨w.heap.size, 2, none⟩ (.slice none 0 0)).setCell ⟨w.heap.size, 3, none⟩ (.int .i64 0)).setCell ⟨w.heap.size, 4, none⟩ (.slice none 0 0)).setCell ⟨w.heap.size, 5, none⟩ (.slice none 0 0)).setCell ⟨w.heap.size, 6, none⟩ (.int .i64 0)).setCell ⟨w.heap.size, 7, none⟩ (.int .i64 0)).setCell ⟨w.heap.size, 8, none⟩ (.int .i64 0)).setCell ⟨w.heap.size, 9, none⟩ (.int .i64 0)).setCell ⟨w.heap.size, 10, none⟩ (.string ⟨#[]⟩)) = W5 at *
  obtain ⟨s0_, s1_, s2_, s3_, s4_, s5_, s6_, s7_, s8_, s9_, s10_⟩ := hs
  exact bodyPost_ret (v := .tuple #[.agg #[.int .i64 0, .int .i64 0, .slice none 0 0, .int .i64 0, .slice none 0 0, .slice none 0 0, .int .i64 0, .int .i64 0, .int .i64 0, .int .i64 0, .string ⟨#[]⟩], .int .i64 (0), .int .i64 4]) (by simp [results, Tryz.results55, go_sem, s0_, s1_, s2_, s3_, s4_, s5_, s6_, s7_, s8_, s9_, s10_]) rfl ⟨by rw [HN.out], hbs⟩
 have hT' : (T9 != (m : Int)) = false := by simpa using hT
 have HN : Hid (rdAtS xs p k m = some (P9.withK k)) := by
  show _ = _
  rw [HO.out, HRD.out]; exact if_pos ⟨hK, hT⟩
 clear hK hT
 have OV4 := Lib.hid (OV.out.set0 k)
 have HBV4 : Hid (Below V2.heap.size V2 (V3.setCell ⟨gv, 0, none⟩ (.int .i64 k))) := HBV.out.setCell (p := ⟨gv, 0, none⟩) (Nat.le_of_eq HGE.out) _
 have HB4 : Hid (Below w.heap.size w (V3.setCell ⟨gv, 0, none⟩ (.int .i64 k))) := HB3.out.setCell (p := ⟨gv, 0, none⟩) (Nat.le_of_lt HGV.out) _
 have OR4 := Lib.hid (OR2.out.below HBV4.out)
 have HO4 := Lib.hid ((HOW.out.withK k).below HBV4.out)
 obtain ⟨⟨v0, v1, v2, v3, v4, v5, v6, v7, v8, v9, v10⟩, vf⟩ := OV.out
 go_upto_region 10 with (fail)
 clear v0 v1 v2 v3 v4 v5 v6 v7 v8 v9 v10 vf
 obtain ⟨V4, hV4⟩ : ∃ V4, V3.setCell ⟨gv, 0, none⟩ (.int .i64 k) = V4 := ⟨_, rfl⟩
 rw [hV4] at OV4 HBV4 HB4 OR4 HO4 ⊢
 clear hV4
 obtain ⟨⟨u0, u1, u2, u3, u4, u5, u6, u7, u8, u9, u10⟩, uf⟩ := OR4.out
 obtain ⟨⟨v0, v1, v2, v3, v4, v5, v6, v7, v8, v9, v10⟩, vf⟩ := OV4.out
 simp only [RPt.withK] at v0 v1 v2 v3 v4 v5 v6 v7 v8 v9 v10
 go_wp2_with fail
 have hs := (OR4.out.setall (r.withK k)).1
 have hbs := bel_set11 (b := w.heap.size) HB4.out (Nat.le_refl _) (r.withK k)
 have hho := ow_set11 HO4.out (b := w.heap.size) HS1.out (r.withK k)
 simp only [RPt.withK] at hs hbs hho
 generalize (((((((((((V4.setCell ⟨w.heap.size, 0, none⟩ (.int .i64 k)).setCell ⟨w.heap.size, 1, none⟩ (.int .i64 r.be)).setCell ⟨w.heap.size, 2, none⟩ (.slice r.a1 r.l1 r.c1)).setCell ⟨w.heap.size, 3, none⟩ (.int .i64 r.bn)).setCell ⟨w.heap.size, 4, none⟩ (.slice r.a2 r.l2 r.c2)).setCell ⟨w.heap.size, 5, none⟩ (.slice r.a3 r.l3 r.c3)).setCell ⟨w.heap.size, 6, none⟩ (.int .i64 r.s)).setCell ⟨w.heap.size, 7, none⟩ (.int .i64 r.d)).setCell ⟨w.heap.size, 8, none⟩ (.int .i64 r.t)).setCell ⟨w.heap.size, 9, none⟩ (.int .i64 r.n)).setCell ⟨w.heap.size, 10, none⟩ (.string r.x)) = W5 at *
 obtain ⟨s0_, s1_, s2_, s3_, s4_, s5_, s6_, s7_, s8_, s9_, s10_⟩ := hs
 exact bodyPost_ret (v := .tuple #[.agg #[.int .i64 k, .int .i64 r.be, .slice r.a1 r.l1 r.c1, .int .i64 r.bn, .slice r.a2 r.l2 r.c2, .slice r.a3 r.l3 r.c3, .int .i64 r.s, .int .i64 r.d, .int .i64 r.t, .int .i64 r.n, .string r.x], .int .i64 ((p : Int) + (m : Int)), .int .i64 0]) (by simp [results, Tryz.results55, go_sem, s0_, s1_, s2_, s3_, s4_, s5_, s6_, s7_, s8_, s9_, s10_]) rfl ⟨by rw [HN.out]; exact ⟨r.withK k, rfl, hho.mono (Nat.le_of_lt HS1.out)⟩, hbs⟩
set_option maxHeartbeats 16000000 in
theorem gfill3 (v : Value) (xs : List Int) (q k n : Int) (w : World) (hv : Bs w v xs) (hq : 0 ≤ q ∧ q ≤ xs.length) (hn : 0 ≤ n ∧ n ≤ 65535) (h7 : 1 ≤ xs.length) (hl : ¬ (xs.length : Int) - q < n) (hk : k = 3) : Calls Tryz.prog 55 #[v, .int .i64 q, .int .i64 k, .int .i64 n] w (RetG w (rdAtS xs q k n) (q + n)) := by
 obtain ⟨a, l, c, rfl⟩ := Bs_form hv
 obtain ⟨rfl, hlc⟩ := Bs_len2 hv
 have hsw : IntKind.i64.wrap ((xs.length : Int) - q) = (xs.length : Int) - q := by rw [IntKind.wrap_i64]; have := hv.2.1; omega
 have OR : Hid (OwnT (w.alloc (.cells #[.int .i64 0, .int .i64 0, .slice none 0 0, .int .i64 0, .slice none 0 0, .slice none 0 0, .int .i64 0, .int .i64 0, .int .i64 0, .int .i64 0, .string ⟨#[]⟩] 50)) w.heap.size (⟨0, 0, none, 0, 0, 0, none, 0, 0, none, 0, 0, 0, 0, 0, 0, ⟨#[]⟩⟩ : RPt)) := ownt_alloc w (⟨0, 0, none, 0, 0, 0, none, 0, 0, none, 0, 0, 0, 0, 0, 0, ⟨#[]⟩⟩ : RPt) 50 w.heap.size rfl
 have HB : Hid (Below w.heap.size w (w.alloc (.cells #[.int .i64 0, .int .i64 0, .slice none 0 0, .int .i64 0, .slice none 0 0, .slice none 0 0, .int .i64 0, .int .i64 0, .int .i64 0, .int .i64 0, .string ⟨#[]⟩] 50))) := (Below.refl _ w).alloc (Nat.le_refl _) _
 have HS0 : Hid ((w.alloc (.cells #[.int .i64 0, .int .i64 0, .slice none 0 0, .int .i64 0, .slice none 0 0, .slice none 0 0, .int .i64 0, .int .i64 0, .int .i64 0, .int .i64 0, .string ⟨#[]⟩] 50)).heap.size = w.heap.size + 1) := by show _ = _; simp
 have HV := Lib.hid (Bs_below hv HB.out)
 obtain ⟨V0, hV0⟩ : ∃ V0, w.alloc (.cells #[.int .i64 0, .int .i64 0, .slice none 0 0, .int .i64 0, .slice none 0 0, .slice none 0 0, .int .i64 0, .int .i64 0, .int .i64 0, .int .i64 0, .string ⟨#[]⟩] 50) = V0 := ⟨_, rfl⟩
 rw [hV0] at OR HB HV HS0
 have HV0 := Lib.hid hV0
 clear hV0
 have k2' : decide ((xs.length : Int) - q < n) = false := decide_eq_false hl
 have hO : rdAtS xs q k n = rdPart k ((xs.drop q.toNat).take n.toNat) := if_neg hl
 obtain ⟨p, rfl⟩ : ∃ p : Nat, q = p := ⟨q.toNat, by omega⟩
 obtain ⟨m, rfl⟩ : ∃ m : Nat, n = m := ⟨n.toNat, by omega⟩
 rw [Int.toNat_natCast, Int.toNat_natCast] at hO
 have HO := Lib.hid hO
 have HK := Lib.hid hk
 have hpk : p + m ≤ xs.length := by omega
 obtain ⟨b, o, rfl, hcap⟩ : ∃ b o, a = some ⟨b, o, none⟩ ∧ xs.length ≤ c := by
  obtain ⟨_, _, ⟨a', c', h1, _, rfl⟩ | ⟨b, o, c', h1, h2, _⟩⟩ := hv
  ·simp at h7
  ·simp only [Value.slice.injEq, true_and] at h1; exact ⟨b, o, h1.1, by omega⟩
 have HW9 := Lib.hid (bs_win HV.out p m hpk hcap)
 obtain ⟨A9, hA9⟩ : ∃ A9, (if c = p then (some ⟨b, o, none⟩ : Option Addr) else some ⟨b, o + p, none⟩) = A9 := ⟨_, rfl⟩
 rw [hA9] at HW9
 obtain ⟨ys, hys⟩ : ∃ ys, (xs.drop p).take m = ys := ⟨_, rfl⟩
 have HYL : Hid (ys.length = m) := by show _ = _; rw [← hys, List.length_take, List.length_drop]; omega
 rw [hys] at HO HW9
 clear hys hO
 have hwk : IntKind.i64.wrap ((p : Int) + (m : Int)) = (p : Int) + (m : Int) := by rw [IntKind.wrap_i64]; have := hv.2.1; omega
 have hs0 : (0 : Int) ≤ (p : Int) := Int.natCast_nonneg _
 have hs1 : (p : Int) ≤ (p : Int) + (m : Int) := by omega
 have hs2 : (p : Int) + (m : Int) ≤ (c : Int) := by omega
 have hs3 : ((p : Int)).toNat = p := Int.toNat_natCast p
 have hs4 : ((p : Int) + (m : Int)).toNat = p + m := by omega
 have hs5 : p + m - p = m := by omega
 have cS := gparsers A9 m (c - p) V0
 have hL : (Instr.lookup 124 (.map (some (V0.heap.size + 1))) (.int .i64 k) true).run Tryz.prog ((V0.alloc (.cells #[.slice A9 m (c - p)] 26)).alloc (.map (ent4 (.func (Fn.func 90) #[] #[.pointer (some ⟨V0.heap.size, 0, none⟩)]) (.func (Fn.func 92) #[] #[.pointer (some ⟨V0.heap.size, 0, none⟩)]) (.func (Fn.func 94) #[] #[.pointer (some ⟨V0.heap.size, 0, none⟩)]) (.func (Fn.func 96) #[] #[.pointer (some ⟨V0.heap.size, 0, none⟩)])) 4)) = .ok (.tuple #[(.func (Fn.func 94) #[] #[.pointer (some ⟨V0.heap.size, 0, none⟩)]), .bool true]) ((V0.alloc (.cells #[.slice A9 m (c - p)] 26)).alloc (.map (ent4 (.func (Fn.func 90) #[] #[.pointer (some ⟨V0.heap.size, 0, none⟩)]) (.func (Fn.func 92) #[] #[.pointer (some ⟨V0.heap.size, 0, none⟩)]) (.func (Fn.func 94) #[] #[.pointer (some ⟨V0.heap.size, 0, none⟩)]) (.func (Fn.func 96) #[] #[.pointer (some ⟨V0.heap.size, 0, none⟩)])) 4)) := run_look9 underM8 underI8 _ (ent4 (.func (Fn.func 90) #[] #[.pointer (some ⟨V0.heap.size, 0, none⟩)]) (.func (Fn.func 92) #[] #[.pointer (some ⟨V0.heap.size, 0, none⟩)]) (.func (Fn.func 94) #[] #[.pointer (some ⟨V0.heap.size, 0, none⟩)]) (.func (Fn.func 96) #[] #[.pointer (some ⟨V0.heap.size, 0, none⟩)])) 4 k _ (V0.heap.size + 1) 2 (heap_last8 _ _ _ (by simp)) (by rw [hk]; exact find3 _ _ _ _)
 have HBA : Hid (Below V0.heap.size V0 ((V0.alloc (.cells #[.slice A9 m (c - p)] 26)).alloc (.map (ent4 (.func (Fn.func 90) #[] #[.pointer (some ⟨V0.heap.size, 0, none⟩)]) (.func (Fn.func 92) #[] #[.pointer (some ⟨V0.heap.size, 0, none⟩)]) (.func (Fn.func 94) #[] #[.pointer (some ⟨V0.heap.size, 0, none⟩)]) (.func (Fn.func 96) #[] #[.pointer (some ⟨V0.heap.size, 0, none⟩)])) 4))) := ((Below.refl _ V0).alloc (Nat.le_refl _) _).alloc (by simp) _
 have HCB : Hid ((((V0.alloc (.cells #[.slice A9 m (c - p)] 26)).alloc (.map (ent4 (.func (Fn.func 90) #[] #[.pointer (some ⟨V0.heap.size, 0, none⟩)]) (.func (Fn.func 92) #[] #[.pointer (some ⟨V0.heap.size, 0, none⟩)]) (.func (Fn.func 94) #[] #[.pointer (some ⟨V0.heap.size, 0, none⟩)]) (.func (Fn.func 96) #[] #[.pointer (some ⟨V0.heap.size, 0, none⟩)])) 4))).cell? ⟨V0.heap.size, 0, none⟩ = some (.slice A9 m (c - p))) := by show _ = _; simp
 have HB1 := Lib.hid (HB.out.trans (HBA.out.mono HB.out.size))
 have OR1 := Lib.hid (OR.out.below HBA.out)
 have HW1 := Lib.hid (Bs_below HW9.out HBA.out)
 have HS1 : Hid (w.heap.size < (((V0.alloc (.cells #[.slice A9 m (c - p)] 26)).alloc (.map (ent4 (.func (Fn.func 90) #[] #[.pointer (some ⟨V0.heap.size, 0, none⟩)]) (.func (Fn.func 92) #[] #[.pointer (some ⟨V0.heap.size, 0, none⟩)]) (.func (Fn.func 94) #[] #[.pointer (some ⟨V0.heap.size, 0, none⟩)]) (.func (Fn.func 96) #[] #[.pointer (some ⟨V0.heap.size, 0, none⟩)])) 4))).heap.size) := OR1.out.lt
 clear hv hq hn hl hk h7 hpk hcap hlc HV HW9 OR
 go_enter Tryz.func55, Tryz.ntmps55
 go_upto_region 1 with (fail)
 rw [HV0.out]
 clear HV0
 go_wp2_with fail
 refine cS.mono ?_
 rintro e w9 ⟨rfl, rfl⟩
 clear cS hA9
 have HRD : Hid (rdPart k ys = if rcK 3 ys = 0 ∧ rcT 3 ys = m then some ((rcP 3 ys).withK k) else none) := by
  show _ = _
  rw [HK.out, rd_rc (by decide), HYL.out]
 go_upto_region 6 with (fail)
 obtain ⟨V1, hV1⟩ : ∃ V1, ((V0.alloc (.cells #[.slice A9 m (c - p)] 26)).alloc (.map (ent4 (.func (Fn.func 90) #[] #[.pointer (some ⟨V0.heap.size, 0, none⟩)]) (.func (Fn.func 92) #[] #[.pointer (some ⟨V0.heap.size, 0, none⟩)]) (.func (Fn.func 94) #[] #[.pointer (some ⟨V0.heap.size, 0, none⟩)]) (.func (Fn.func 96) #[] #[.pointer (some ⟨V0.heap.size, 0, none⟩)])) 4)) = V1 := ⟨_, rfl⟩
 rw [hV1] at HB1 OR1 HW1 HCB HS1 ⊢
 clear hL hV1 HBA
 have cP := gpc3 V0.heap.size _ ys V1 HCB.out HW1.out
 generalize rcT 3 ys = T9 at *
 generalize rcK 3 ys = K9 at *
 generalize rcP 3 ys = P9 at *
 go_wp2_with fail
 refine cP.mono ?_
 rintro e V2 ⟨⟨r, rfl, ho⟩, hb⟩
 have HB2 := Lib.hid (HB1.out.trans (hb.mono HB1.out.size))
 have OR2 := Lib.hid (OR1.out.below hb)
 have HOW := Lib.hid ho
 clear hb ho cP HCB HW1
 have hal := (Below.refl V2.heap.size V2).alloc (Nat.le_refl _) (.cells #[.int .i64 r.k, .int .i64 r.be, .slice r.a1 r.l1 r.c1, .int .i64 r.bn, .slice r.a2 r.l2 r.c2, .slice r.a3 r.l3 r.c3, .int .i64 r.s, .int .i64 r.d, .int .i64 r.t, .int .i64 r.n, .string r.x] 50)
 have HB3 := Lib.hid (HB2.out.trans (hal.mono HB2.out.size))
 have OR3 := Lib.hid (OR2.out.below hal)
 have HO3 := Lib.hid (HOW.out.below hal)
 have HBV := Lib.hid hal
 clear hal
 obtain ⟨gv, hgv⟩ : ∃ g, V2.heap.size = g := ⟨_, rfl⟩
 have OV : Hid (OwnT (V2.alloc (.cells #[.int .i64 r.k, .int .i64 r.be, .slice r.a1 r.l1 r.c1, .int .i64 r.bn, .slice r.a2 r.l2 r.c2, .slice r.a3 r.l3 r.c3, .int .i64 r.s, .int .i64 r.d, .int .i64 r.t, .int .i64 r.n, .string r.x] 50)) gv r) := ownt_alloc V2 r 50 gv hgv.symm
 have HGV : Hid (w.heap.size < gv) := by rw [← hgv]; exact OR2.out.lt
 have HGE := Lib.hid hgv
 clear hgv
 go_upto_region 7 with (fail)
 rw [HGE.out]
 obtain ⟨V3, hV3⟩ : ∃ V3, V2.alloc (.cells #[.int .i64 r.k, .int .i64 r.be, .slice r.a1 r.l1 r.c1, .int .i64 r.bn, .slice r.a2 r.l2 r.c2, .slice r.a3 r.l3 r.c3, .int .i64 r.s, .int .i64 r.d, .int .i64 r.t, .int .i64 r.n, .string r.x] 50) = V3 := ⟨_, rfl⟩
 rw [hV3] at HB3 OR3 HO3 OV HBV
 rw [hV3]
 clear hV3
 have hgn1 : gv ≠ w.heap.size := by have := HGV.out; omega
 have hgn2 : w.heap.size ≠ gv := by have := HGV.out; omega
 by_cases hK : K9 = 0
 rotate_left
 ·have hK' : (K9 != 0) = true := by simpa using hK
  have HN : Hid (rdAtS xs p k m = none) := by
   show _ = _
   rw [HO.out, HRD.out]; exact if_neg (fun h => hK h.1)
  clear hK
  obtain ⟨⟨u0, u1, u2, u3, u4, u5, u6, u7, u8, u9, u10⟩, uf⟩ := OR3.out
  go_wp2_with fail
  have hs := (OR3.out.setall (⟨0, 0, none, 0, 0, 0, none, 0, 0, none, 0, 0, 0, 0, 0, 0, ⟨#[]⟩⟩ : RPt)).1
  have hbs := bel_set11 (b := w.heap.size) HB3.out (Nat.le_refl _) (⟨0, 0, none, 0, 0, 0, none, 0, 0, none, 0, 0, 0, 0, 0, 0, ⟨#[]⟩⟩ : RPt)
  simp only at hs hbs
  generalize (((((((((((V3.setCell ⟨w.heap.size, 0, none⟩ (.int .i64 0)).setCell ⟨w.heap.size, 1, none⟩ (.int .i64 0)).setCell ⟨w.heap.size, 2, none⟩ (.slice none 0 0)).setCell ⟨w.heap.size, 3, none⟩ (.int .i64 0)).setCell ⟨w.heap.size, 4, none⟩ (.slice none 0 0)).setCell ⟨w.heap.size, 5, none⟩ (.slice none 0 0)).setCell ⟨w.heap.size, 6, none⟩ (.int .i64 0)).setCell ⟨w.heap.size, 7, none⟩ (.int .i64 0)).setCell ⟨w.heap.size, 8, none⟩ (.int .i64 0)).setCell ⟨w.heap.size, 9, none⟩ (.int .i64 0)).setCell ⟨w.heap.size, 10, none⟩ (.string ⟨#[]⟩)) = W5 at *
  obtain ⟨s0_, s1_, s2_, s3_, s4_, s5_, s6_, s7_, s8_, s9_, s10_⟩ := hs
  exact bodyPost_ret (v := .tuple #[.agg #[.int .i64 0, .int .i64 0, .slice none 0 0, .int .i64 0, .slice none 0 0, .slice none 0 0, .int .i64 0, .int .i64 0, .int .i64 0, .int .i64 0, .string ⟨#[]⟩], .int .i64 (0), .int .i64 4]) (by simp [results, Tryz.results55, go_sem, s0_, s1_, s2_, s3_, s4_, s5_, s6_, s7_, s8_, s9_, s10_]) rfl ⟨by rw [HN.out], hbs⟩
 have hK' : (K9 != 0) = false := by simpa using hK
 by_cases hT : T9 = (m : Int)
 rotate_left
 ·have hT' : (T9 != (m : Int)) = true := by simpa using hT
  have HN : Hid (rdAtS xs p k m = none) := by
   show _ = _
   rw [HO.out, HRD.out]; exact if_neg (fun h => hT h.2)
  clear hK hT
  obtain ⟨⟨u0, u1, u2, u3, u4, u5, u6, u7, u8, u9, u10⟩, uf⟩ := OR3.out
  go_wp2_with fail
  have hs := (OR3.out.setall (⟨0, 0, none, 0, 0, 0, none, 0, 0, none, 0, 0, 0, 0, 0, 0, ⟨#[]⟩⟩ : RPt)).1
  have hbs := bel_set11 (b := w.heap.size) HB3.out (Nat.le_refl _) (⟨0, 0, none, 0, 0, 0, none, 0, 0, none, 0, 0, 0, 0, 0, 0, ⟨#[]⟩⟩ : RPt)
  simp only at hs hbs
  generalize (((((((((((V3.setCell ⟨w.heap.size, 0, none⟩ (.int .i64 0)).setCell ⟨w.heap.size, 1, none⟩ (.int .i64 0)).setCell ⟨w.heap.size, 2, none⟩ (.slice none 0 0)).setCell ⟨w.heap.size, 3, none⟩ (.int .i64 0)).setCell ⟨w.heap.size, 4, none⟩ (.slice none 0 0)).setCell ⟨w.heap.size, 5, none⟩ (.slice none 0 0)).setCell ⟨w.heap.size, 6, none⟩ (.int .i64 0)).setCell ⟨w.heap.size, 7, none⟩ (.int .i64 0)).setCell ⟨w.heap.size, 8, none⟩ (.int .i64 0)).setCell ⟨w.heap.size, 9, none⟩ (.int .i64 0)).setCell ⟨w.heap.size, 10, none⟩ (.string ⟨#[]⟩)) = W5 at *
  obtain ⟨s0_, s1_, s2_, s3_, s4_, s5_, s6_, s7_, s8_, s9_, s10_⟩ := hs
  exact bodyPost_ret (v := .tuple #[.agg #[.int .i64 0, .int .i64 0, .slice none 0 0, .int .i64 0, .slice none 0 0, .slice none 0 0, .int .i64 0, .int .i64 0, .int .i64 0, .int .i64 0, .string ⟨#[]⟩], .int .i64 (0), .int .i64 4]) (by simp [results, Tryz.results55, go_sem, s0_, s1_, s2_, s3_, s4_, s5_, s6_, s7_, s8_, s9_, s10_]) rfl ⟨by rw [HN.out], hbs⟩
 have hT' : (T9 != (m : Int)) = false := by simpa using hT
 have HN : Hid (rdAtS xs p k m = some (P9.withK k)) := by
  show _ = _
  rw [HO.out, HRD.out]; exact if_pos ⟨hK, hT⟩
 clear hK hT
 have OV4 := Lib.hid (OV.out.set0 k)
 have HBV4 : Hid (Below V2.heap.size V2 (V3.setCell ⟨gv, 0, none⟩ (.int .i64 k))) := HBV.out.setCell (p := ⟨gv, 0, none⟩) (Nat.le_of_eq HGE.out) _
 have HB4 : Hid (Below w.heap.size w (V3.setCell ⟨gv, 0, none⟩ (.int .i64 k))) := HB3.out.setCell (p := ⟨gv, 0, none⟩) (Nat.le_of_lt HGV.out) _
 have OR4 := Lib.hid (OR2.out.below HBV4.out)
 have HO4 := Lib.hid ((HOW.out.withK k).below HBV4.out)
 obtain ⟨⟨v0, v1, v2, v3, v4, v5, v6, v7, v8, v9, v10⟩, vf⟩ := OV.out
 go_upto_region 10 with (fail)
 clear v0 v1 v2 v3 v4 v5 v6 v7 v8 v9 v10 vf
 obtain ⟨V4, hV4⟩ : ∃ V4, V3.setCell ⟨gv, 0, none⟩ (.int .i64 k) = V4 := ⟨_, rfl⟩
 rw [hV4] at OV4 HBV4 HB4 OR4 HO4 ⊢
 clear hV4
 obtain ⟨⟨u0, u1, u2, u3, u4, u5, u6, u7, u8, u9, u10⟩, uf⟩ := OR4.out
 obtain ⟨⟨v0, v1, v2, v3, v4, v5, v6, v7, v8, v9, v10⟩, vf⟩ := OV4.out
 simp only [RPt.withK] at v0 v1 v2 v3 v4 v5 v6 v7 v8 v9 v10
 go_wp2_with fail
 have hs := (OR4.out.setall (r.withK k)).1
 have hbs := bel_set11 (b := w.heap.size) HB4.out (Nat.le_refl _) (r.withK k)
 have hho := ow_set11 HO4.out (b := w.heap.size) HS1.out (r.withK k)
 simp only [RPt.withK] at hs hbs hho
 generalize (((((((((((V4.setCell ⟨w.heap.size, 0, none⟩ (.int .i64 k)).setCell ⟨w.heap.size, 1, none⟩ (.int .i64 r.be)).setCell ⟨w.heap.size, 2, none⟩ (.slice r.a1 r.l1 r.c1)).setCell ⟨w.heap.size, 3, none⟩ (.int .i64 r.bn)).setCell ⟨w.heap.size, 4, none⟩ (.slice r.a2 r.l2 r.c2)).setCell ⟨w.heap.size, 5, none⟩ (.slice r.a3 r.l3 r.c3)).setCell ⟨w.heap.size, 6, none⟩ (.int .i64 r.s)).setCell ⟨w.heap.size, 7, none⟩ (.int .i64 r.d)).setCell ⟨w.heap.size, 8, none⟩ (.int .i64 r.t)).setCell ⟨w.heap.size, 9, none⟩ (.int .i64 r.n)).setCell ⟨w.heap.size, 10, none⟩ (.string r.x)) = W5 at *
 obtain ⟨s0_, s1_, s2_, s3_, s4_, s5_, s6_, s7_, s8_, s9_, s10_⟩ := hs
 exact bodyPost_ret (v := .tuple #[.agg #[.int .i64 k, .int .i64 r.be, .slice r.a1 r.l1 r.c1, .int .i64 r.bn, .slice r.a2 r.l2 r.c2, .slice r.a3 r.l3 r.c3, .int .i64 r.s, .int .i64 r.d, .int .i64 r.t, .int .i64 r.n, .string r.x], .int .i64 ((p : Int) + (m : Int)), .int .i64 0]) (by simp [results, Tryz.results55, go_sem, s0_, s1_, s2_, s3_, s4_, s5_, s6_, s7_, s8_, s9_, s10_]) rfl ⟨by rw [HN.out]; exact ⟨r.withK k, rfl, hho.mono (Nat.le_of_lt HS1.out)⟩, hbs⟩
set_option maxHeartbeats 16000000 in
theorem gfill4 (v : Value) (xs : List Int) (q k n : Int) (w : World) (hv : Bs w v xs) (hq : 0 ≤ q ∧ q ≤ xs.length) (hn : 0 ≤ n ∧ n ≤ 65535) (h7 : 1 ≤ xs.length) (hl : ¬ (xs.length : Int) - q < n) (hk : k = 4) : Calls Tryz.prog 55 #[v, .int .i64 q, .int .i64 k, .int .i64 n] w (RetG w (rdAtS xs q k n) (q + n)) := by
 obtain ⟨a, l, c, rfl⟩ := Bs_form hv
 obtain ⟨rfl, hlc⟩ := Bs_len2 hv
 have hsw : IntKind.i64.wrap ((xs.length : Int) - q) = (xs.length : Int) - q := by rw [IntKind.wrap_i64]; have := hv.2.1; omega
 have OR : Hid (OwnT (w.alloc (.cells #[.int .i64 0, .int .i64 0, .slice none 0 0, .int .i64 0, .slice none 0 0, .slice none 0 0, .int .i64 0, .int .i64 0, .int .i64 0, .int .i64 0, .string ⟨#[]⟩] 50)) w.heap.size (⟨0, 0, none, 0, 0, 0, none, 0, 0, none, 0, 0, 0, 0, 0, 0, ⟨#[]⟩⟩ : RPt)) := ownt_alloc w (⟨0, 0, none, 0, 0, 0, none, 0, 0, none, 0, 0, 0, 0, 0, 0, ⟨#[]⟩⟩ : RPt) 50 w.heap.size rfl
 have HB : Hid (Below w.heap.size w (w.alloc (.cells #[.int .i64 0, .int .i64 0, .slice none 0 0, .int .i64 0, .slice none 0 0, .slice none 0 0, .int .i64 0, .int .i64 0, .int .i64 0, .int .i64 0, .string ⟨#[]⟩] 50))) := (Below.refl _ w).alloc (Nat.le_refl _) _
 have HS0 : Hid ((w.alloc (.cells #[.int .i64 0, .int .i64 0, .slice none 0 0, .int .i64 0, .slice none 0 0, .slice none 0 0, .int .i64 0, .int .i64 0, .int .i64 0, .int .i64 0, .string ⟨#[]⟩] 50)).heap.size = w.heap.size + 1) := by show _ = _; simp
 have HV := Lib.hid (Bs_below hv HB.out)
 obtain ⟨V0, hV0⟩ : ∃ V0, w.alloc (.cells #[.int .i64 0, .int .i64 0, .slice none 0 0, .int .i64 0, .slice none 0 0, .slice none 0 0, .int .i64 0, .int .i64 0, .int .i64 0, .int .i64 0, .string ⟨#[]⟩] 50) = V0 := ⟨_, rfl⟩
 rw [hV0] at OR HB HV HS0
 have HV0 := Lib.hid hV0
 clear hV0
 have k2' : decide ((xs.length : Int) - q < n) = false := decide_eq_false hl
 have hO : rdAtS xs q k n = rdPart k ((xs.drop q.toNat).take n.toNat) := if_neg hl
 obtain ⟨p, rfl⟩ : ∃ p : Nat, q = p := ⟨q.toNat, by omega⟩
 obtain ⟨m, rfl⟩ : ∃ m : Nat, n = m := ⟨n.toNat, by omega⟩
 rw [Int.toNat_natCast, Int.toNat_natCast] at hO
 have HO := Lib.hid hO
 have HK := Lib.hid hk
 have hpk : p + m ≤ xs.length := by omega
 obtain ⟨b, o, rfl, hcap⟩ : ∃ b o, a = some ⟨b, o, none⟩ ∧ xs.length ≤ c := by
  obtain ⟨_, _, ⟨a', c', h1, _, rfl⟩ | ⟨b, o, c', h1, h2, _⟩⟩ := hv
  ·simp at h7
  ·simp only [Value.slice.injEq, true_and] at h1; exact ⟨b, o, h1.1, by omega⟩
 have HW9 := Lib.hid (bs_win HV.out p m hpk hcap)
 obtain ⟨A9, hA9⟩ : ∃ A9, (if c = p then (some ⟨b, o, none⟩ : Option Addr) else some ⟨b, o + p, none⟩) = A9 := ⟨_, rfl⟩
 rw [hA9] at HW9
 obtain ⟨ys, hys⟩ : ∃ ys, (xs.drop p).take m = ys := ⟨_, rfl⟩
 have HYL : Hid (ys.length = m) := by show _ = _; rw [← hys, List.length_take, List.length_drop]; omega
 rw [hys] at HO HW9
 clear hys hO
 have hwk : IntKind.i64.wrap ((p : Int) + (m : Int)) = (p : Int) + (m : Int) := by rw [IntKind.wrap_i64]; have := hv.2.1; omega
 have hs0 : (0 : Int) ≤ (p : Int) := Int.natCast_nonneg _
 have hs1 : (p : Int) ≤ (p : Int) + (m : Int) := by omega
 have hs2 : (p : Int) + (m : Int) ≤ (c : Int) := by omega
 have hs3 : ((p : Int)).toNat = p := Int.toNat_natCast p
 have hs4 : ((p : Int) + (m : Int)).toNat = p + m := by omega
 have hs5 : p + m - p = m := by omega
 have cS := gparsers A9 m (c - p) V0
 have hL : (Instr.lookup 124 (.map (some (V0.heap.size + 1))) (.int .i64 k) true).run Tryz.prog ((V0.alloc (.cells #[.slice A9 m (c - p)] 26)).alloc (.map (ent4 (.func (Fn.func 90) #[] #[.pointer (some ⟨V0.heap.size, 0, none⟩)]) (.func (Fn.func 92) #[] #[.pointer (some ⟨V0.heap.size, 0, none⟩)]) (.func (Fn.func 94) #[] #[.pointer (some ⟨V0.heap.size, 0, none⟩)]) (.func (Fn.func 96) #[] #[.pointer (some ⟨V0.heap.size, 0, none⟩)])) 4)) = .ok (.tuple #[(.func (Fn.func 96) #[] #[.pointer (some ⟨V0.heap.size, 0, none⟩)]), .bool true]) ((V0.alloc (.cells #[.slice A9 m (c - p)] 26)).alloc (.map (ent4 (.func (Fn.func 90) #[] #[.pointer (some ⟨V0.heap.size, 0, none⟩)]) (.func (Fn.func 92) #[] #[.pointer (some ⟨V0.heap.size, 0, none⟩)]) (.func (Fn.func 94) #[] #[.pointer (some ⟨V0.heap.size, 0, none⟩)]) (.func (Fn.func 96) #[] #[.pointer (some ⟨V0.heap.size, 0, none⟩)])) 4)) := run_look9 underM8 underI8 _ (ent4 (.func (Fn.func 90) #[] #[.pointer (some ⟨V0.heap.size, 0, none⟩)]) (.func (Fn.func 92) #[] #[.pointer (some ⟨V0.heap.size, 0, none⟩)]) (.func (Fn.func 94) #[] #[.pointer (some ⟨V0.heap.size, 0, none⟩)]) (.func (Fn.func 96) #[] #[.pointer (some ⟨V0.heap.size, 0, none⟩)])) 4 k _ (V0.heap.size + 1) 3 (heap_last8 _ _ _ (by simp)) (by rw [hk]; exact find4 _ _ _ _)
 have HBA : Hid (Below V0.heap.size V0 ((V0.alloc (.cells #[.slice A9 m (c - p)] 26)).alloc (.map (ent4 (.func (Fn.func 90) #[] #[.pointer (some ⟨V0.heap.size, 0, none⟩)]) (.func (Fn.func 92) #[] #[.pointer (some ⟨V0.heap.size, 0, none⟩)]) (.func (Fn.func 94) #[] #[.pointer (some ⟨V0.heap.size, 0, none⟩)]) (.func (Fn.func 96) #[] #[.pointer (some ⟨V0.heap.size, 0, none⟩)])) 4))) := ((Below.refl _ V0).alloc (Nat.le_refl _) _).alloc (by simp) _
 have HCB : Hid ((((V0.alloc (.cells #[.slice A9 m (c - p)] 26)).alloc (.map (ent4 (.func (Fn.func 90) #[] #[.pointer (some ⟨V0.heap.size, 0, none⟩)]) (.func (Fn.func 92) #[] #[.pointer (some ⟨V0.heap.size, 0, none⟩)]) (.func (Fn.func 94) #[] #[.pointer (some ⟨V0.heap.size, 0, none⟩)]) (.func (Fn.func 96) #[] #[.pointer (some ⟨V0.heap.size, 0, none⟩)])) 4))).cell? ⟨V0.heap.size, 0, none⟩ = some (.slice A9 m (c - p))) := by show _ = _; simp
 have HB1 := Lib.hid (HB.out.trans (HBA.out.mono HB.out.size))
 have OR1 := Lib.hid (OR.out.below HBA.out)
 have HW1 := Lib.hid (Bs_below HW9.out HBA.out)
 have HS1 : Hid (w.heap.size < (((V0.alloc (.cells #[.slice A9 m (c - p)] 26)).alloc (.map (ent4 (.func (Fn.func 90) #[] #[.pointer (some ⟨V0.heap.size, 0, none⟩)]) (.func (Fn.func 92) #[] #[.pointer (some ⟨V0.heap.size, 0, none⟩)]) (.func (Fn.func 94) #[] #[.pointer (some ⟨V0.heap.size, 0, none⟩)]) (.func (Fn.func 96) #[] #[.pointer (some ⟨V0.heap.size, 0, none⟩)])) 4))).heap.size) := OR1.out.lt
 clear hv hq hn hl hk h7 hpk hcap hlc HV HW9 OR
 go_enter Tryz.func55, Tryz.ntmps55
 go_upto_region 1 with (fail)
 rw [HV0.out]
 clear HV0
 go_wp2_with fail
 refine cS.mono ?_
 rintro e w9 ⟨rfl, rfl⟩
 clear cS hA9
 have HRD : Hid (rdPart k ys = if rcK 4 ys = 0 ∧ rcT 4 ys = m then some ((rcP 4 ys).withK k) else none) := by
  show _ = _
  rw [HK.out, rd_rc (by decide), HYL.out]
 go_upto_region 6 with (fail)
 obtain ⟨V1, hV1⟩ : ∃ V1, ((V0.alloc (.cells #[.slice A9 m (c - p)] 26)).alloc (.map (ent4 (.func (Fn.func 90) #[] #[.pointer (some ⟨V0.heap.size, 0, none⟩)]) (.func (Fn.func 92) #[] #[.pointer (some ⟨V0.heap.size, 0, none⟩)]) (.func (Fn.func 94) #[] #[.pointer (some ⟨V0.heap.size, 0, none⟩)]) (.func (Fn.func 96) #[] #[.pointer (some ⟨V0.heap.size, 0, none⟩)])) 4)) = V1 := ⟨_, rfl⟩
 rw [hV1] at HB1 OR1 HW1 HCB HS1 ⊢
 clear hL hV1 HBA
 have cP := gpc4 V0.heap.size _ ys V1 HCB.out HW1.out
 generalize rcT 4 ys = T9 at *
 generalize rcK 4 ys = K9 at *
 generalize rcP 4 ys = P9 at *
 go_wp2_with fail
 refine cP.mono ?_
 rintro e V2 ⟨⟨r, rfl, ho⟩, hb⟩
 have HB2 := Lib.hid (HB1.out.trans (hb.mono HB1.out.size))
 have OR2 := Lib.hid (OR1.out.below hb)
 have HOW := Lib.hid ho
 clear hb ho cP HCB HW1
 have hal := (Below.refl V2.heap.size V2).alloc (Nat.le_refl _) (.cells #[.int .i64 r.k, .int .i64 r.be, .slice r.a1 r.l1 r.c1, .int .i64 r.bn, .slice r.a2 r.l2 r.c2, .slice r.a3 r.l3 r.c3, .int .i64 r.s, .int .i64 r.d, .int .i64 r.t, .int .i64 r.n, .string r.x] 50)
 have HB3 := Lib.hid (HB2.out.trans (hal.mono HB2.out.size))
 have OR3 := Lib.hid (OR2.out.below hal)
 have HO3 := Lib.hid (HOW.out.below hal)
 have HBV := Lib.hid hal
 clear hal
 obtain ⟨gv, hgv⟩ : ∃ g, V2.heap.size = g := ⟨_, rfl⟩
 have OV : Hid (OwnT (V2.alloc (.cells #[.int .i64 r.k, .int .i64 r.be, .slice r.a1 r.l1 r.c1, .int .i64 r.bn, .slice r.a2 r.l2 r.c2, .slice r.a3 r.l3 r.c3, .int .i64 r.s, .int .i64 r.d, .int .i64 r.t, .int .i64 r.n, .string r.x] 50)) gv r) := ownt_alloc V2 r 50 gv hgv.symm
 have HGV : Hid (w.heap.size < gv) := by rw [← hgv]; exact OR2.out.lt
 have HGE := Lib.hid hgv
 clear hgv
 go_upto_region 7 with (fail)
 rw [HGE.out]
 obtain ⟨V3, hV3⟩ : ∃ V3, V2.alloc (.cells #[.int .i64 r.k, .int .i64 r.be, .slice r.a1 r.l1 r.c1, .int .i64 r.bn, .slice r.a2 r.l2 r.c2, .slice r.a3 r.l3 r.c3, .int .i64 r.s, .int .i64 r.d, .int .i64 r.t, .int .i64 r.n, .string r.x] 50) = V3 := ⟨_, rfl⟩
 rw [hV3] at HB3 OR3 HO3 OV HBV
 rw [hV3]
 clear hV3
 have hgn1 : gv ≠ w.heap.size := by have := HGV.out; omega
 have hgn2 : w.heap.size ≠ gv := by have := HGV.out; omega
 by_cases hK : K9 = 0
 rotate_left
 ·have hK' : (K9 != 0) = true := by simpa using hK
  have HN : Hid (rdAtS xs p k m = none) := by
   show _ = _
   rw [HO.out, HRD.out]; exact if_neg (fun h => hK h.1)
  clear hK
  obtain ⟨⟨u0, u1, u2, u3, u4, u5, u6, u7, u8, u9, u10⟩, uf⟩ := OR3.out
  go_wp2_with fail
  have hs := (OR3.out.setall (⟨0, 0, none, 0, 0, 0, none, 0, 0, none, 0, 0, 0, 0, 0, 0, ⟨#[]⟩⟩ : RPt)).1
  have hbs := bel_set11 (b := w.heap.size) HB3.out (Nat.le_refl _) (⟨0, 0, none, 0, 0, 0, none, 0, 0, none, 0, 0, 0, 0, 0, 0, ⟨#[]⟩⟩ : RPt)
  simp only at hs hbs
  generalize (((((((((((V3.setCell ⟨w.heap.size, 0, none⟩ (.int .i64 0)).setCell ⟨w.heap.size, 1, none⟩ (.int .i64 0)).setCell ⟨w.heap.size, 2, none⟩ (.slice none 0 0)).setCell ⟨w.heap.size, 3, none⟩ (.int .i64 0)).setCell ⟨w.heap.size, 4, none⟩ (.slice none 0 0)).setCell ⟨w.heap.size, 5, none⟩ (.slice none 0 0)).setCell ⟨w.heap.size, 6, none⟩ (.int .i64 0)).setCell ⟨w.heap.size, 7, none⟩ (.int .i64 0)).setCell ⟨w.heap.size, 8, none⟩ (.int .i64 0)).setCell ⟨w.heap.size, 9, none⟩ (.int .i64 0)).setCell ⟨w.heap.size, 10, none⟩ (.string ⟨#[]⟩)) = W5 at *
  obtain ⟨s0_, s1_, s2_, s3_, s4_, s5_, s6_, s7_, s8_, s9_, s10_⟩ := hs
  exact bodyPost_ret (v := .tuple #[.agg #[.int .i64 0, .int .i64 0, .slice none 0 0, .int .i64 0, .slice none 0 0, .slice none 0 0, .int .i64 0, .int .i64 0, .int .i64 0, .int .i64 0, .string ⟨#[]⟩], .int .i64 (0), .int .i64 4]) (by simp [results, Tryz.results55, go_sem, s0_, s1_, s2_, s3_, s4_, s5_, s6_, s7_, s8_, s9_, s10_]) rfl ⟨by rw [HN.out], hbs⟩
 have hK' : (K9 != 0) = false := by simpa using hK
 by_cases hT : T9 = (m : Int)
 rotate_left
 ·have hT' : (T9 != (m : Int)) = true := by simpa using hT
  have HN : Hid (rdAtS xs p k m = none) := by
   show _ = _
   rw [HO.out, HRD.out]; exact if_neg (fun h => hT h.2)
  clear hK hT
  obtain ⟨⟨u0, u1, u2, u3, u4, u5, u6, u7, u8, u9, u10⟩, uf⟩ := OR3.out
  go_wp2_with fail
  have hs := (OR3.out.setall (⟨0, 0, none, 0, 0, 0, none, 0, 0, none, 0, 0, 0, 0, 0, 0, ⟨#[]⟩⟩ : RPt)).1
  have hbs := bel_set11 (b := w.heap.size) HB3.out (Nat.le_refl _) (⟨0, 0, none, 0, 0, 0, none, 0, 0, none, 0, 0, 0, 0, 0, 0, ⟨#[]⟩⟩ : RPt)
  simp only at hs hbs
  generalize (((((((((((V3.setCell ⟨w.heap.size, 0, none⟩ (.int .i64 0)).setCell ⟨w.heap.size, 1, none⟩ (.int .i64 0)).setCell ⟨w.heap.size, 2, none⟩ (.slice none 0 0)).setCell ⟨w.heap.size, 3, none⟩ (.int .i64 0)).setCell ⟨w.heap.size, 4, none⟩ (.slice none 0 0)).setCell ⟨w.heap.size, 5, none⟩ (.slice none 0 0)).setCell ⟨w.heap.size, 6, none⟩ (.int .i64 0)).setCell ⟨w.heap.size, 7, none⟩ (.int .i64 0)).setCell ⟨w.heap.size, 8, none⟩ (.int .i64 0)).setCell ⟨w.heap.size, 9, none⟩ (.int .i64 0)).setCell ⟨w.heap.size, 10, none⟩ (.string ⟨#[]⟩)) = W5 at *
  obtain ⟨s0_, s1_, s2_, s3_, s4_, s5_, s6_, s7_, s8_, s9_, s10_⟩ := hs
  exact bodyPost_ret (v := .tuple #[.agg #[.int .i64 0, .int .i64 0, .slice none 0 0, .int .i64 0, .slice none 0 0, .slice none 0 0, .int .i64 0, .int .i64 0, .int .i64 0, .int .i64 0, .string ⟨#[]⟩], .int .i64 (0), .int .i64 4]) (by simp [results, Tryz.results55, go_sem, s0_, s1_, s2_, s3_, s4_, s5_, s6_, s7_, s8_, s9_, s10_]) rfl ⟨by rw [HN.out], hbs⟩
 have hT' : (T9 != (m : Int)) = false := by simpa using hT
 have HN : Hid (rdAtS xs p k m = some (P9.withK k)) := by
  show _ = _
  rw [HO.out, HRD.out]; exact if_pos ⟨hK, hT⟩
 clear hK hT
 have OV4 := Lib.hid (OV.out.set0 k)
 have HBV4 : Hid (Below V2.heap.size V2 (V3.setCell ⟨gv, 0, none⟩ (.int .i64 k))) := HBV.out.setCell (p := ⟨gv, 0, none⟩) (Nat.le_of_eq HGE.out) _
 have HB4 : Hid (Below w.heap.size w (V3.setCell ⟨gv, 0, none⟩ (.int .i64 k))) := HB3.out.setCell (p := ⟨gv, 0, none⟩) (Nat.le_of_lt HGV.out) _
 have OR4 := Lib.hid (OR2.out.below HBV4.out)
 have HO4 := Lib.hid ((HOW.out.withK k).below HBV4.out)
 obtain ⟨⟨v0, v1, v2, v3, v4, v5, v6, v7, v8, v9, v10⟩, vf⟩ := OV.out
 go_upto_region 10 with (fail)
 clear v0 v1 v2 v3 v4 v5 v6 v7 v8 v9 v10 vf
 obtain ⟨V4, hV4⟩ : ∃ V4, V3.setCell ⟨gv, 0, none⟩ (.int .i64 k) = V4 := ⟨_, rfl⟩
 rw [hV4] at OV4 HBV4 HB4 OR4 HO4 ⊢
 clear hV4
 obtain ⟨⟨u0, u1, u2, u3, u4, u5, u6, u7, u8, u9, u10⟩, uf⟩ := OR4.out
 obtain ⟨⟨v0, v1, v2, v3, v4, v5, v6, v7, v8, v9, v10⟩, vf⟩ := OV4.out
 simp only [RPt.withK] at v0 v1 v2 v3 v4 v5 v6 v7 v8 v9 v10
 go_wp2_with fail
 have hs := (OR4.out.setall (r.withK k)).1
 have hbs := bel_set11 (b := w.heap.size) HB4.out (Nat.le_refl _) (r.withK k)
 have hho := ow_set11 HO4.out (b := w.heap.size) HS1.out (r.withK k)
 simp only [RPt.withK] at hs hbs hho
 generalize (((((((((((V4.setCell ⟨w.heap.size, 0, none⟩ (.int .i64 k)).setCell ⟨w.heap.size, 1, none⟩ (.int .i64 r.be)).setCell ⟨w.heap.size, 2, none⟩ (.slice r.a1 r.l1 r.c1)).setCell ⟨w.heap.size, 3, none⟩ (.int .i64 r.bn)).setCell ⟨w.heap.size, 4, none⟩ (.slice r.a2 r.l2 r.c2)).setCell ⟨w.heap.size, 5, none⟩ (.slice r.a3 r.l3 r.c3)).setCell ⟨w.heap.size, 6, none⟩ (.int .i64 r.s)).setCell ⟨w.heap.size, 7, none⟩ (.int .i64 r.d)).setCell ⟨w.heap.size, 8, none⟩ (.int .i64 r.t)).setCell ⟨w.heap.size, 9, none⟩ (.int .i64 r.n)).setCell ⟨w.heap.size, 10, none⟩ (.string r.x)) = W5 at *
 obtain ⟨s0_, s1_, s2_, s3_, s4_, s5_, s6_, s7_, s8_, s9_, s10_⟩ := hs
 exact bodyPost_ret (v := .tuple #[.agg #[.int .i64 k, .int .i64 r.be, .slice r.a1 r.l1 r.c1, .int .i64 r.bn, .slice r.a2 r.l2 r.c2, .slice r.a3 r.l3 r.c3, .int .i64 r.s, .int .i64 r.d, .int .i64 r.t, .int .i64 r.n, .string r.x], .int .i64 ((p : Int) + (m : Int)), .int .i64 0]) (by simp [results, Tryz.results55, go_sem, s0_, s1_, s2_, s3_, s4_, s5_, s6_, s7_, s8_, s9_, s10_]) rfl ⟨by rw [HN.out]; exact ⟨r.withK k, rfl, hho.mono (Nat.le_of_lt HS1.out)⟩, hbs⟩
set_option maxHeartbeats 16000000 in
theorem gfill5 (v : Value) (xs : List Int) (q k n : Int) (w : World) (hv : Bs w v xs) (hq : 0 ≤ q ∧ q ≤ xs.length) (hn : 0 ≤ n ∧ n ≤ 65535) (h7 : 1 ≤ xs.length) (hl : ¬ (xs.length : Int) - q < n) (hk : k ≠ 1 ∧ k ≠ 2 ∧ k ≠ 3 ∧ k ≠ 4) : Calls Tryz.prog 55 #[v, .int .i64 q, .int .i64 k, .int .i64 n] w (RetG w (rdAtS xs q k n) (q + n)) := by
 obtain ⟨a, l, c, rfl⟩ := Bs_form hv
 obtain ⟨rfl, hlc⟩ := Bs_len2 hv
 have hsw : IntKind.i64.wrap ((xs.length : Int) - q) = (xs.length : Int) - q := by rw [IntKind.wrap_i64]; have := hv.2.1; omega
 have OR : Hid (OwnT (w.alloc (.cells #[.int .i64 0, .int .i64 0, .slice none 0 0, .int .i64 0, .slice none 0 0, .slice none 0 0, .int .i64 0, .int .i64 0, .int .i64 0, .int .i64 0, .string ⟨#[]⟩] 50)) w.heap.size (⟨0, 0, none, 0, 0, 0, none, 0, 0, none, 0, 0, 0, 0, 0, 0, ⟨#[]⟩⟩ : RPt)) := ownt_alloc w (⟨0, 0, none, 0, 0, 0, none, 0, 0, none, 0, 0, 0, 0, 0, 0, ⟨#[]⟩⟩ : RPt) 50 w.heap.size rfl
 have HB : Hid (Below w.heap.size w (w.alloc (.cells #[.int .i64 0, .int .i64 0, .slice none 0 0, .int .i64 0, .slice none 0 0, .slice none 0 0, .int .i64 0, .int .i64 0, .int .i64 0, .int .i64 0, .string ⟨#[]⟩] 50))) := (Below.refl _ w).alloc (Nat.le_refl _) _
 have HS0 : Hid ((w.alloc (.cells #[.int .i64 0, .int .i64 0, .slice none 0 0, .int .i64 0, .slice none 0 0, .slice none 0 0, .int .i64 0, .int .i64 0, .int .i64 0, .int .i64 0, .string ⟨#[]⟩] 50)).heap.size = w.heap.size + 1) := by show _ = _; simp
 have HV := Lib.hid (Bs_below hv HB.out)
 obtain ⟨V0, hV0⟩ : ∃ V0, w.alloc (.cells #[.int .i64 0, .int .i64 0, .slice none 0 0, .int .i64 0, .slice none 0 0, .slice none 0 0, .int .i64 0, .int .i64 0, .int .i64 0, .int .i64 0, .string ⟨#[]⟩] 50) = V0 := ⟨_, rfl⟩
 rw [hV0] at OR HB HV HS0
 have HV0 := Lib.hid hV0
 clear hV0
 have k2' : decide ((xs.length : Int) - q < n) = false := decide_eq_false hl
 have hO : rdAtS xs q k n = rdPart k ((xs.drop q.toNat).take n.toNat) := if_neg hl
 obtain ⟨p, rfl⟩ : ∃ p : Nat, q = p := ⟨q.toNat, by omega⟩
 obtain ⟨m, rfl⟩ : ∃ m : Nat, n = m := ⟨n.toNat, by omega⟩
 rw [Int.toNat_natCast, Int.toNat_natCast] at hO
 have HO := Lib.hid hO
 have HK := Lib.hid hk
 have hpk : p + m ≤ xs.length := by omega
 obtain ⟨b, o, rfl, hcap⟩ : ∃ b o, a = some ⟨b, o, none⟩ ∧ xs.length ≤ c := by
  obtain ⟨_, _, ⟨a', c', h1, _, rfl⟩ | ⟨b, o, c', h1, h2, _⟩⟩ := hv
  ·simp at h7
  ·simp only [Value.slice.injEq, true_and] at h1; exact ⟨b, o, h1.1, by omega⟩
 have HW9 := Lib.hid (bs_win HV.out p m hpk hcap)
 obtain ⟨A9, hA9⟩ : ∃ A9, (if c = p then (some ⟨b, o, none⟩ : Option Addr) else some ⟨b, o + p, none⟩) = A9 := ⟨_, rfl⟩
 rw [hA9] at HW9
 obtain ⟨ys, hys⟩ : ∃ ys, (xs.drop p).take m = ys := ⟨_, rfl⟩
 have HYL : Hid (ys.length = m) := by show _ = _; rw [← hys, List.length_take, List.length_drop]; omega
 rw [hys] at HO HW9
 clear hys hO
 have hwk : IntKind.i64.wrap ((p : Int) + (m : Int)) = (p : Int) + (m : Int) := by rw [IntKind.wrap_i64]; have := hv.2.1; omega
 have hs0 : (0 : Int) ≤ (p : Int) := Int.natCast_nonneg _
 have hs1 : (p : Int) ≤ (p : Int) + (m : Int) := by omega
 have hs2 : (p : Int) + (m : Int) ≤ (c : Int) := by omega
 have hs3 : ((p : Int)).toNat = p := Int.toNat_natCast p
 have hs4 : ((p : Int) + (m : Int)).toNat = p + m := by omega
 have hs5 : p + m - p = m := by omega
 have cS := gparsers A9 m (c - p) V0
 have hL : (Instr.lookup 124 (.map (some (V0.heap.size + 1))) (.int .i64 k) true).run Tryz.prog ((V0.alloc (.cells #[.slice A9 m (c - p)] 26)).alloc (.map (ent4 (.func (Fn.func 90) #[] #[.pointer (some ⟨V0.heap.size, 0, none⟩)]) (.func (Fn.func 92) #[] #[.pointer (some ⟨V0.heap.size, 0, none⟩)]) (.func (Fn.func 94) #[] #[.pointer (some ⟨V0.heap.size, 0, none⟩)]) (.func (Fn.func 96) #[] #[.pointer (some ⟨V0.heap.size, 0, none⟩)])) 4)) = .ok (.tuple #[.nilFunc, .bool false]) ((V0.alloc (.cells #[.slice A9 m (c - p)] 26)).alloc (.map (ent4 (.func (Fn.func 90) #[] #[.pointer (some ⟨V0.heap.size, 0, none⟩)]) (.func (Fn.func 92) #[] #[.pointer (some ⟨V0.heap.size, 0, none⟩)]) (.func (Fn.func 94) #[] #[.pointer (some ⟨V0.heap.size, 0, none⟩)]) (.func (Fn.func 96) #[] #[.pointer (some ⟨V0.heap.size, 0, none⟩)])) 4)) := run_look9_no underM8 underI8 _ (ent4 (.func (Fn.func 90) #[] #[.pointer (some ⟨V0.heap.size, 0, none⟩)]) (.func (Fn.func 92) #[] #[.pointer (some ⟨V0.heap.size, 0, none⟩)]) (.func (Fn.func 94) #[] #[.pointer (some ⟨V0.heap.size, 0, none⟩)]) (.func (Fn.func 96) #[] #[.pointer (some ⟨V0.heap.size, 0, none⟩)])) 4 k _ (V0.heap.size + 1) (heap_last8 _ _ _ (by simp)) (find0 _ _ _ _ _ hk) (zeroF8 _)
 have HBA : Hid (Below V0.heap.size V0 ((V0.alloc (.cells #[.slice A9 m (c - p)] 26)).alloc (.map (ent4 (.func (Fn.func 90) #[] #[.pointer (some ⟨V0.heap.size, 0, none⟩)]) (.func (Fn.func 92) #[] #[.pointer (some ⟨V0.heap.size, 0, none⟩)]) (.func (Fn.func 94) #[] #[.pointer (some ⟨V0.heap.size, 0, none⟩)]) (.func (Fn.func 96) #[] #[.pointer (some ⟨V0.heap.size, 0, none⟩)])) 4))) := ((Below.refl _ V0).alloc (Nat.le_refl _) _).alloc (by simp) _
 have HCB : Hid ((((V0.alloc (.cells #[.slice A9 m (c - p)] 26)).alloc (.map (ent4 (.func (Fn.func 90) #[] #[.pointer (some ⟨V0.heap.size, 0, none⟩)]) (.func (Fn.func 92) #[] #[.pointer (some ⟨V0.heap.size, 0, none⟩)]) (.func (Fn.func 94) #[] #[.pointer (some ⟨V0.heap.size, 0, none⟩)]) (.func (Fn.func 96) #[] #[.pointer (some ⟨V0.heap.size, 0, none⟩)])) 4))).cell? ⟨V0.heap.size, 0, none⟩ = some (.slice A9 m (c - p))) := by show _ = _; simp
 have HB1 := Lib.hid (HB.out.trans (HBA.out.mono HB.out.size))
 have OR1 := Lib.hid (OR.out.below HBA.out)
 have HW1 := Lib.hid (Bs_below HW9.out HBA.out)
 have HS1 : Hid (w.heap.size < (((V0.alloc (.cells #[.slice A9 m (c - p)] 26)).alloc (.map (ent4 (.func (Fn.func 90) #[] #[.pointer (some ⟨V0.heap.size, 0, none⟩)]) (.func (Fn.func 92) #[] #[.pointer (some ⟨V0.heap.size, 0, none⟩)]) (.func (Fn.func 94) #[] #[.pointer (some ⟨V0.heap.size, 0, none⟩)]) (.func (Fn.func 96) #[] #[.pointer (some ⟨V0.heap.size, 0, none⟩)])) 4))).heap.size) := OR1.out.lt
 clear hv hq hn hl hk h7 hpk hcap hlc HV HW9 OR
 go_enter Tryz.func55, Tryz.ntmps55
 go_upto_region 1 with (fail)
 rw [HV0.out]
 clear HV0
 go_wp2_with fail
 refine cS.mono ?_
 rintro e w9 ⟨rfl, rfl⟩
 clear cS hA9
 replace HO : Hid (rdAtS xs p k m = none) := HO.out.trans (rd_k0 HK.out _)
 go_upto_region 5 with (fail)
 obtain ⟨V1, hV1⟩ : ∃ V1, ((V0.alloc (.cells #[.slice A9 m (c - p)] 26)).alloc (.map (ent4 (.func (Fn.func 90) #[] #[.pointer (some ⟨V0.heap.size, 0, none⟩)]) (.func (Fn.func 92) #[] #[.pointer (some ⟨V0.heap.size, 0, none⟩)]) (.func (Fn.func 94) #[] #[.pointer (some ⟨V0.heap.size, 0, none⟩)]) (.func (Fn.func 96) #[] #[.pointer (some ⟨V0.heap.size, 0, none⟩)])) 4)) = V1 := ⟨_, rfl⟩
 rw [hV1] at HB1 OR1 ⊢
 clear hL hV1 HBA HCB HW1 HS1
 obtain ⟨⟨u0, u1, u2, u3, u4, u5, u6, u7, u8, u9, u10⟩, uf⟩ := OR1.out
 go_wp2_with fail
 have hs := (OR1.out.setall (⟨0, 0, none, 0, 0, 0, none, 0, 0, none, 0, 0, 0, 0, 0, 0, ⟨#[]⟩⟩ : RPt)).1
 have hbs := bel_set11 (b := w.heap.size) HB1.out (Nat.le_refl _) (⟨0, 0, none, 0, 0, 0, none, 0, 0, none, 0, 0, 0, 0, 0, 0, ⟨#[]⟩⟩ : RPt)
 simp only at hs hbs
 generalize (((((((((((V1.setCell ⟨w.heap.size, 0, none⟩ (.int .i64 0)).setCell ⟨w.heap.size, 1, none⟩ (.int .i64 0)).setCell ⟨w.heap.size, 2, none⟩ (.slice none 0 0)).setCell ⟨w.heap.size, 3, none⟩ (.int .i64 0)).setCell ⟨w.heap.size, 4, none⟩ (.slice none 0 0)).setCell ⟨w.heap.size, 5, none⟩ (.slice none 0 0)).setCell ⟨w.heap.size, 6, none⟩ (.int .i64 0)).setCell ⟨w.heap.size, 7, none⟩ (.int .i64 0)).setCell ⟨w.heap.size, 8, none⟩ (.int .i64 0)).setCell ⟨w.heap.size, 9, none⟩ (.int .i64 0)).setCell ⟨w.heap.size, 10, none⟩ (.string ⟨#[]⟩)) = W5 at *
 obtain ⟨s0_, s1_, s2_, s3_, s4_, s5_, s6_, s7_, s8_, s9_, s10_⟩ := hs
 exact bodyPost_ret (v := .tuple #[.agg #[.int .i64 0, .int .i64 0, .slice none 0 0, .int .i64 0, .slice none 0 0, .slice none 0 0, .int .i64 0, .int .i64 0, .int .i64 0, .int .i64 0, .string ⟨#[]⟩], .int .i64 (0), .int .i64 4]) (by simp [results, Tryz.results55, go_sem, s0_, s1_, s2_, s3_, s4_, s5_, s6_, s7_, s8_, s9_, s10_]) rfl ⟨by rw [HO.out], hbs⟩
theorem gfilled_any (v : Value) (xs : List Int) (q k n : Int) (w : World) (hv : Bs w v xs) (hq : 0 ≤ q ∧ q ≤ xs.length) (hn : 0 ≤ n ∧ n ≤ 65535) (h7 : 1 ≤ xs.length) : Calls Tryz.prog 55 #[v, .int .i64 q, .int .i64 k, .int .i64 n] w (RetG w (rdAtS xs q k n) (q + n)) := by
 by_cases hl : (xs.length : Int) - q < n
 ·exact gfill_long v xs q k n w hv hq hn h7 hl
 by_cases h1 : k = 1
 ·exact gfill1 v xs q k n w hv hq hn h7 hl h1
 by_cases h2 : k = 2
 ·exact gfill2 v xs q k n w hv hq hn h7 hl h2
 by_cases h3 : k = 3
 ·exact gfill3 v xs q k n w hv hq hn h7 hl h3
 by_cases h4 : k = 4
 ·exact gfill4 v xs q k n w hv hq hn h7 hl h4
 exact gfill5 v xs q k n w hv hq hn h7 hl ⟨h1, h2, h3, h4⟩
end Go.Proofs.YtjghebcnmoojmaaGreat
