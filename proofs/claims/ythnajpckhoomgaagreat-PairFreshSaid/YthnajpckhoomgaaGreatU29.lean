/- Texts Akm, Bby, Bpg, Pka, Sd8, Pq0, Pq2, Pq4, Pq5 of this proof, in one. No conditions but on lengths. -/
import Derived.Test.YthnajpckhoomgaaGreatRows
import Derived.Test.YthnajpckhoomgaaGreatU55
import Derived.Test.YthnajpckhoomgaaGreatU22
import Derived.Test.YthnajpckhoomgaaGreatU26
import Derived.Test.YthnajpckhoomgaaGreatU27
import Derived.Test.YthnajpckhoomgaaGreatU28
import Derived.ArgAppend
import Derived.Below
import Derived.BigQuiet
import Derived.Calls
import Derived.ChangeArms
import Derived.ChangeKeysEq
import Derived.ChangeMade
import Derived.ChangeOld
import Derived.Deep.Cut
import Derived.Deep.CutBlock
import Derived.Deep.LoopGhost
import Derived.Deep.QuietTactic
import Derived.Deep.RegionHeld
import Derived.Deep.RegionLaw
import Derived.Deep.RegionWith
import Derived.Deep.Slices
import Derived.Laws.AppendOwnNone
import Derived.Laws.BytesArg
import Derived.Laws.LoneSync
import Derived.Laws.OwnMore
import Derived.Laws.StructEq
import Derived.Lib.AppendStr
import Derived.Lib.ConvBytes
import Derived.Lib.Hide
import Derived.Lib.QuietBelow
import Derived.LoopIn
import Derived.LoopTactic
import Derived.Maps.AppendAt
import Derived.OpenShut
import Derived.Orders
import Derived.Outline
import Derived.OwnWalkIn
import Derived.ProofKit
import Derived.RangeFuncBox
import Derived.RangeFuncCalls
import Derived.RangeFuncLeaves
import Derived.RangeFuncNested
import Derived.Shelf.RegionOpen
import Derived.Shelf.RegionOpenPlain
import Derived.ShutString
import Derived.StillTail
import Derived.TacticsInMore
import Derived.WalkKit
import Derived.WalkLawsBesides
import Derived.WalkSpells
import Derived.WideShapes
namespace Go.Proofs.YthnajpckhoomgaaGreat
set_option maxRecDepth 100000

theorem pow2_split {j k : Nat} (h : j < k) : ∃ t : Int, pow2 k = pow2 j * (2 * t) := by
  induction k with
  | zero => omega
  | succ k ih =>
    rcases Nat.lt_or_ge j k with h' | h'
    · obtain ⟨t, ht⟩ := ih h'
      exact ⟨2 * t, by simp only [pow2]; rw [ht]; rw [← Int.mul_assoc 2, Int.mul_comm 2 (pow2 j), Int.mul_assoc]⟩
    · obtain rfl : j = k := by omega
      exact ⟨1, by simp only [pow2]; omega⟩
theorem bit_add {m p t : Int} (hp : 1 ≤ p) : (m + p * (2 * t)) / p % 2 = m / p % 2 := by
  rw [Int.add_mul_ediv_left _ _ (by omega)]
  omega
/-- The bits of a mask. -/
theorem mk_bit (x : Int) (cs : List Int) : ∀ (K j : Nat), j < K → (mk x cs K / pow2 j % 2 = 1 ↔ hit x cs j = true)
  | 0, j, h => by omega
  | K + 1, j, h => by
    have hp := pow2_pos j
    have hb := mk_bd x cs K
    rcases Nat.lt_or_ge j K with h' | h'
    · rw [← mk_bit x cs K j h', mk]
      obtain ⟨t, ht⟩ := pow2_split h'
      split
      · rw [ht, bit_add hp]
      · rw [Int.add_zero]
    · obtain rfl : j = K := by omega
      rw [mk]
      split
      · rename_i hh
        have e : (mk x cs j + pow2 j) / pow2 j = 1 := by
          have h1 := Int.add_mul_ediv_left (mk x cs j) 1 (show pow2 j ≠ 0 by omega)
          rw [Int.mul_one, Int.ediv_eq_zero_of_lt hb.1 hb.2] at h1
          omega
        rw [e]
        simp [hh]
      · rename_i hh
        rw [Int.add_zero, Int.ediv_eq_zero_of_lt hb.1 hb.2]
        simp [hh]
theorem hit_iff {x : Int} {cs : List Int} {k : Nat} : hit x cs k = true ↔ ∃ c, c ∈ cs ∧ far x c = (k : Int) + 1 := by
  unfold hit
  rw [List.any_eq_true]
  constructor
  · rintro ⟨c, h1, h2⟩
    exact ⟨c, h1, by simpa using h2⟩
  · rintro ⟨c, h1, h2⟩
    exact ⟨c, h1, by simpa using h2⟩
/-- What an ack of what came has. -/
theorem has_iff {x n : Int} {cs : List Int} : hasN x (mk x cs 16) n = true ↔ (1 ≤ far n x ∧ far n x ≤ 32768) ∨ ((1 ≤ far x n ∧ far x n ≤ 16) ∧ ∃ c, c ∈ cs ∧ far x c = far x n) := by
  unfold hasN hasE
  simp only [Bool.or_eq_true, Bool.and_eq_true, decide_eq_true_eq]
  constructor
  · rintro (h | ⟨⟨h1, h2⟩, h3⟩)
    · exact .inl h
    · refine .inr ⟨⟨h1, h2⟩, ?_⟩
      have h4 := (mk_bit x cs 16 (far x n - 1).toNat (by omega)).1 h3
      obtain ⟨c, hc, he⟩ := hit_iff.1 h4
      exact ⟨c, hc, by omega⟩
  · rintro (h | ⟨⟨h1, h2⟩, c, hc, he⟩)
    · exact .inl h
    · exact .inr ⟨⟨h1, h2⟩, (mk_bit x cs 16 (far x n - 1).toNat (by omega)).2 (hit_iff.2 ⟨c, hc, by omega⟩)⟩
theorem mk_16 (x : Int) (cs : List Int) : 0 ≤ mk x cs 16 ∧ mk x cs 16 ≤ 65535 := by
  have h := mk_bd x cs 16
  rw [pow2_16] at h
  omega
end Go.Proofs.YthnajpckhoomgaaGreat
namespace Go.Proofs.YthnajpckhoomgaaGreat
set_option maxRecDepth 100000
open Go.RowKit Go.Sort

set_option maxHeartbeats 16000000 in
theorem pbytes_own (M : Int) (v : Value) (ys : List Ob) (w : World) (hy : Os w v ys) (h : BtOk M ys) : Calls Tryz.prog 193 #[.agg #[.int .i64 M, v]] w fun e w' => ∃ r, e = .returned (.tuple #[r, .int .i64 0]) ∧ (w'.ownsRow w.heap.size 5 1 r (btB M ys).length ((btB M ys).map (Value.int .u8)) ∧ Bs w' r (btB M ys)) ∧ Below w.heap.size w w' := by
  obtain ⟨a, c, rfl⟩ := hy.form
  have hl : ys.length ≤ 32 := h.2.1.2
  have cR := pcheck_any M _ ys (w.alloc (.cells #[.int .i64 M, .slice a ys.length c] 69)) (hy.alloc _) (by omega)
  rw [btc, if_pos h] at cR
  obtain ⟨hN, hlen, hok, htot⟩ := h
  have HOK := Lib.hid hok
  have HY := Lib.hid (hy.alloc (.cells #[.int .i64 M, .slice a ys.length c] 69))
  have hwl : IntKind.u8.wrap (ys.length : Int) = (ys.length : Int) := by rw [IntKind.wrap_u8]; omega
  have cP : ∀ w, Calls Tryz.prog 133 #[.int .i64 M, .int .i64 2] w fun e w' => ∃ r, e = .returned (.tuple #[r, .int .i64 0]) ∧ w'.ownsRow w.heap.size 5 1 r 2 ([M / 256, M % 256].map (Value.int .u8)) ∧ Below w.heap.size w w' := fun w => by
    have h := put_own M 2 w ⟨hN.1, by rw [show pow256 2 = 65536 by decide]; omega⟩ (by decide) (by decide)
    rw [lo_two hN] at h
    exact h
  clear hok hy
  go_enter Tryz.func193, Tryz.ntmps193
  go_wp2_with (go_at_call 152; refine cR.mono ?_; rintro e V ⟨rfl, hb⟩; have k0 : V.cell? ⟨w.heap.size, 0, none⟩ = some (.int .i64 M) := (by rw [hb.cell (p := ⟨w.heap.size, 0, none⟩) (by simp)]; simp); have k1 : V.cell? ⟨w.heap.size, 1, none⟩ = some (.slice a ys.length c) := (by rw [hb.cell (p := ⟨w.heap.size, 1, none⟩) (by simp)]; simp); replace HY := Lib.hid (HY.out.below hb); have HB : Hid (Below w.heap.size w V) := ((Below.refl _ w).alloc (Nat.le_refl _) _).trans (hb.mono (by simp)); have HL : Hid (w.heap.size < V.heap.size) := Nat.lt_of_lt_of_le (by simp) hb.size; clear hb)
  refine (cP _).mono ?_
  rintro e V1 ⟨r1, rfl, ho1, hb1⟩
  obtain ⟨a1, c1, rfl⟩ := own_form ho1
  have O1 : Hid ((V1.alloc (.cells #[.int .u8 ys.length] 5)).ownsRow V.heap.size 5 1 (.slice a1 2 c1) [M / 256, M % 256].length ([M / 256, M % 256].map (Value.int .u8))) := ho1.alloc _
  have L1 : Hid (Bs (V1.alloc (.cells #[.int .u8 ys.length] 5)) (.slice (some ⟨V1.heap.size, 0, none⟩) 1 1) [(ys.length : Int)]) := Bs_lit [(ys.length : Int)] 5 (fun z hz => by simp at hz; omega) (by simp) _ rfl _ rfl 1 rfl
  have B1 : Hid (Below V.heap.size V (V1.alloc (.cells #[.int .u8 ys.length] 5))) := hb1.alloc hb1.size _
  have c0 : V1.cell? ⟨w.heap.size, 0, none⟩ = some (.int .i64 M) := by rw [hb1.cell (p := ⟨w.heap.size, 0, none⟩) HL.out]; exact k0
  have c1' : V1.cell? ⟨w.heap.size, 1, none⟩ = some (.slice a ys.length c) := by rw [hb1.cell (p := ⟨w.heap.size, 1, none⟩) HL.out]; exact k1
  clear ho1 hb1
  go_wp2_with (at_builtin; refine app_any rfl (.tmp 22) (.tmp 27) rfl V.heap.size [M / 256, M % 256] [(ys.length : Int)] O1.out L1.out (by simp) B1.out.size ?_; intro v2 w2 hown2 hb2 hs2; have O2 := Lib.hid hown2; have B2 := Lib.hid (B1.out.trans hb2); have d1 : w2.cell? ⟨w.heap.size, 1, none⟩ = some (.slice a ys.length c) := (by rw [B2.out.cell (p := ⟨w.heap.size, 1, none⟩) HL.out]; exact k1); clear hown2 hb2 hs2)
  go_loopw [5, 8, 9, 10, 32] (fun out _ _ _ i wr => ∃ k : Nat, k ≤ ys.length ∧ i = .int .i64 k ∧ wr.ownsRow V.heap.size 5 1 out ([M / 256, M % 256, (ys.length : Int)] ++ ((ys.take k).map Ob.bs).flatten).length (([M / 256, M % 256, (ys.length : Int)] ++ ((ys.take k).map Ob.bs).flatten).map (Value.int .u8)) ∧ Below V.heap.size V wr) (fun _ _ _ _ i _ => ys.length - (intOf i).toNat)
  case atStart => exact ⟨0, Nat.zero_le _, rfl, O2.out, B2.out⟩
  case round =>
    obtain ⟨k, hk, rfl, hown, hbel⟩ := hrel
    have O3 := Lib.hid hown
    have B3 := Lib.hid hbel
    clear hown hbel
    have hzl := osz_take_le ys k
    have hzz := bs_flat_len (ys.take k)
    by_cases hlt : k < ys.length
    · obtain ⟨b, off, rfl, hB, hc⟩ := (HY.out.below B3.out).at hlt
      have HF := Lib.hid (flat_bs ys k hlt)
      have HK1 := Lib.hid (HOK.out k hlt)
      obtain ⟨y, hyk⟩ : ∃ y, ys.getD k z12 = y := ⟨_, rfl⟩
      rw [hyk] at hc HF HK1
      obtain ⟨p0, p1, p2, p3, p4, p5, p6, p7, p8, p9, p10, p11⟩ := hc.all
      have H2 := Lib.hid ((Below.refl _ wr).alloc (Nat.le_refl _) (.cells #[.int .i64 y.k, .int .i64 y.x, .bool y.n, .int .i64 y.t, .int .i64 y.o, .int .i64 y.r, .int .i64 y.d, .int .i64 y.i, .int .i64 y.p, .int .i64 y.q, .int .i64 y.s, .int .i64 y.m] 39))
      have hyl := bs_le y
      clear hc hyk
      have cB : ∀ w, Calls Tryz.prog 178 #[.agg #[.int .i64 y.k, .int .i64 y.x, .bool y.n, .int .i64 y.t, .int .i64 y.o, .int .i64 y.r, .int .i64 y.d, .int .i64 y.i, .int .i64 y.p, .int .i64 y.q, .int .i64 y.s, .int .i64 y.m]] w (RetB y.bs 0 w) := fun w => by
        have h := obytes_any y.k y.x y.n y.t y.o y.r y.d y.i y.p y.q y.s y.m w
        rwa [show obc y.k y.x y.n y.t y.o y.r y.d y.i y.p y.q y.s y.m = 0 from obc_ok HK1.out] at h
      go_wp2_with fail
      refine (cB _).mono ?_
      rintro e w1 ⟨r3, rfl, hr3, hb⟩
      obtain ⟨a3, c3, rfl⟩ := Bs_len hr3
      have hb' := H2.out.trans (hb.mono H2.out.size)
      have O4 := Lib.hid (own_below O3.out hb')
      have R4 := Lib.hid hr3
      have B4 := Lib.hid (B3.out.trans (hb'.mono B3.out.size))
      clear hb hb' hr3
      go_wp2_with (at_builtin; refine app_any rfl (.tmp 41) (.tmp 42) rfl V.heap.size ([M / 256, M % 256, (ys.length : Int)] ++ ((ys.take k).map Ob.bs).flatten) y.bs O4.out R4.out (by simp only [List.length_append, List.length_cons, List.length_nil]; omega) B4.out.size ?_; intro v5 w5 hown5 hb5 hs5; have O5 := Lib.hid hown5; have B5 := Lib.hid (B4.out.trans hb5); clear hown5 hb5 hs5)
      go_roundw
      case rel => exact ⟨k + 1, by omega, by go_num, by rw [HF.out, ← List.append_assoc]; exact O5.out, B5.out⟩
      case measure => simp [intOf]; omega
    · obtain rfl : k = ys.length := by omega
      go_wp2_with fail
      go_ret2
      have hO := O3.out
      rw [List.take_length] at hO hzz
      refine ⟨_, rfl, ⟨own_mono hO HB.out.size, ?_⟩, HB.out.trans (B3.out.mono HB.out.size)⟩
      refine Bs_of_own hO (byt_app (fun z hz => by simp at hz; rcases hz with rfl | rfl | rfl <;> omega) (fun z hz => ?_)) (show (btB M ys).length ≤ _ by unfold btB; simp only [List.length_append, List.length_cons, List.length_nil]; omega)
      obtain ⟨l, hl1, hl2⟩ := List.mem_flatten.1 hz
      obtain ⟨y, hy1, rfl⟩ := List.mem_map.1 hl1
      obtain ⟨i, hi, hy2⟩ := List.mem_iff_getElem.1 hy1
      refine ob_byt ?_ z hl2
      have := HOK.out i hi
      rw [show ys.getD i z12 = y by simp [List.getD, hi, hy2]] at this
      exact this
end Go.Proofs.YthnajpckhoomgaaGreat
namespace Go.Proofs.YthnajpckhoomgaaGreat
set_option maxRecDepth 100000
open Go.RowKit Go.Sort

set_option maxHeartbeats 8000000 in
theorem ppack_any (v : Value) (ys : List Ob) (first most : Int) (w : World) (hy : Os w v ys) (hl : ys.length ≤ 3000) :
    Calls Tryz.prog 59 #[v, .int .i64 first, .int .i64 most] w fun e w' => ∃ r, e = .returned (.tuple #[r, .int .i64 (packE ys most)]) ∧ RowB w' w.heap.size r (packB ys first most) ∧ Below w.heap.size w w' := by
  have fin : ∀ E : Int, E ≠ 0 → packE ys most = E → packB ys first most = [] := fun E h1 h2 => by unfold packB; rw [if_neg (by omega)]
  by_cases hm : 40 ≤ most ∧ most ≤ 512
  · have hm1 : ¬ most < 40 := by omega
    have hm2 : ¬ (512 : Int) < most := by omega
    have cR := fun w' (hb : Below w.heap.size w w') => areright_any v ys w' (hy.below hb) hl
    by_cases hok : AllOk ys
    · rw [decide_eq_true hok] at cR
      by_cases h1024 : 1024 < ys.length
      · have hE : packE ys most = 2 := by unfold packE; rw [if_pos ⟨hm.1, hm.2, hok⟩, if_pos h1024]
        rw [fin 2 (by decide) hE, hE]
        have hl2 : (1024 : Int) < (ys.length : Int) := by omega
        obtain ⟨a, c, rfl⟩ := hy.form
        clear hy hok fin hE
        go_enter Tryz.func59, Tryz.ntmps59
        go_wp2_with (go_at_call 106; refine (cR _ (Below.refl _ _)).mono ?_; rintro e w1 ⟨rfl, hb⟩; have B1 := Lib.hid hb; clear hb)
        go_ret2
        exact ⟨_, rfl, RowB_nil _ _, B1.out⟩
      · have hE : packE ys most = 0 := by unfold packE; rw [if_pos ⟨hm.1, hm.2, hok⟩, if_neg h1024]
        rw [packB, if_pos hE, hE]
        have hl2 : ¬ (1024 : Int) < (ys.length : Int) := by omega
        have cP := fun w' (hb : Below w.heap.size w w') => part_any v ys (lft first) most w' (hy.below hb) (by omega) hm
        obtain ⟨a, c, rfl⟩ := hy.form
        have HY := Lib.hid hy
        clear hy hok fin hE
        go_enter Tryz.func59, Tryz.ntmps59
        go_wp2_with fail
        refine (cR _ (Below.refl _ _)).mono ?_
        rintro e w1 ⟨rfl, hb⟩
        have B1 := Lib.hid hb
        clear hb
        go_wp2_with fail
        refine (pleft_any first _).mono ?_
        rintro e w2 ⟨rfl, hb⟩
        replace B1 := Lib.hid (B1.out.trans (hb.mono B1.out.size))
        clear hb
        go_wp2_with fail
        refine (cP _ B1.out).mono ?_
        rintro e w3 ⟨r, rfl, hr, hb⟩
        have R := Lib.hid (show RowB w3 w.heap.size r (packL most ys first) from hr.base B1.out.size)
        have B2 := Lib.hid (B1.out.trans (hb.mono B1.out.size))
        obtain ⟨a3, c3, rfl⟩ := R.out.form
        clear hb hr
        go_wp2_with fail
        go_ret2
        exact ⟨_, rfl, R.out, B2.out⟩
    · rw [decide_eq_false hok] at cR
      have hE : packE ys most = 1 := by unfold packE; rw [if_neg (fun h => hok h.2.2)]
      rw [fin 1 (by decide) hE, hE]
      obtain ⟨a, c, rfl⟩ := hy.form
      clear hy hok fin hE
      go_enter Tryz.func59, Tryz.ntmps59
      go_wp2_with (go_at_call 106; refine (cR _ (Below.refl _ _)).mono ?_; rintro e w1 ⟨rfl, hb⟩; have B1 := Lib.hid hb; clear hb)
      go_ret2
      exact ⟨_, rfl, RowB_nil _ _, B1.out⟩
  · have hE : packE ys most = 1 := by unfold packE; rw [if_neg (fun h => hm ⟨h.1, h.2.1⟩)]
    rw [fin 1 (by decide) hE, hE]
    obtain ⟨a, c, rfl⟩ := hy.form
    clear hy fin hE
    by_cases h40 : most < 40
    · go_enter Tryz.func59, Tryz.ntmps59
      go_wp2_with fail
      go_ret2
      exact ⟨_, rfl, RowB_nil _ _, Below.refl _ _⟩
    · have h512 : (512 : Int) < most := by omega
      go_enter Tryz.func59, Tryz.ntmps59
      go_wp2_with fail
      go_ret2
      exact ⟨_, rfl, RowB_nil _ _, Below.refl _ _⟩
end Go.Proofs.YthnajpckhoomgaaGreat
namespace Go.Proofs.YthnajpckhoomgaaGreat
set_option maxRecDepth 100000
open Go.RowKit

/-- A row of pairs lies there. -/
def Prs (w : World) (g : Nat) (ps : List (Int × Nat)) : Prop := ∀ i, i < ps.length → w.cell? ⟨g, i * 2, none⟩ = some (.int .i64 (ps.getD i (0, 0)).1) ∧ w.cell? ⟨g, i * 2 + 1, none⟩ = some (.int .i64 ((ps.getD i (0, 0)).2 : Int))
theorem Prs.below {w w' : World} {g : Nat} {ps : List (Int × Nat)} (h : Prs w g ps) (hg : g < w.heap.size) (hb : Below w.heap.size w w') : Prs w' g ps := fun i hi =>
  ⟨(hb.cell (p := ⟨g, i * 2, none⟩) hg).trans (h i hi).1, (hb.cell (p := ⟨g, i * 2 + 1, none⟩) hg).trans (h i hi).2⟩
end Go.Proofs.YthnajpckhoomgaaGreat
namespace Go.Proofs.YthnajpckhoomgaaGreat
set_option maxRecDepth 100000
open Go.RowKit

theorem SentR.at {w : World} {S : Nat} {F : Nat → Prop} {a : Option Addr} {c : Nat} {l : List Bt} (h : SentR w S F (.slice a l.length c) l) {i : Nat} (hi : i < l.length) : ∃ b off, a = some ⟨b, off, none⟩ ∧ l.length ≤ c := by
  obtain ⟨_, vs, h1, h2, _⟩ := h
  rcases h2.2 with ⟨h4, h5⟩ | ⟨g, cap, cur, h4, _, _, h5, _⟩
  · omega
  · simp only [Value.slice.injEq] at h4
    exact ⟨g, 0, h4.1, h4.2.2 ▸ h5⟩
theorem BtsO.at {w : World} {F : Nat → Prop} {a : Option Addr} {c : Nat} {l : List Bt} (h : BtsO w F (.slice a l.length c) l) {i : Nat} (hi : i < l.length) : ∃ b off, a = some ⟨b, off, none⟩ ∧ l.length ≤ c := by
  rcases h with ⟨_, _, _, _, e⟩ | ⟨b, off, cap, h1, h2, _⟩
  · rw [e] at hi; exact absurd hi (Nat.not_lt_zero i)
  · simp only [Value.slice.injEq] at h1
    exact ⟨b, off, h1.1, h1.2.2 ▸ h2⟩
end Go.Proofs.YthnajpckhoomgaaGreat
namespace Go.Proofs.YthnajpckhoomgaaGreat
set_option maxRecDepth 100000
open Go.RowKit

section
variable {P : Program} {f : FuncId} {fn : Func}
theorem run_call_loadN {k : IntKind} (hf : P.funcs[f]? = some fn) (hname : (fn.name == "runtime.NumGoroutine") = false) (hb : fn.body.isNone = true) (hn : Extern.findNext fn = none)
    (he : Extern.find fn = some (Extern.Atomic.loadT (.int k))) {a : Addr} {x : Int} {w : World} (hc : w.cell? a = some (.int k x)) :
    (callFunc f #[.pointer (some a)]).run P w = .ok (.value (.int k x)) w := by
  rw [run_callFunc_extern hf hname hb hn he]
  change (Sem.run P (do Extern.Atomic.read (.int k) (← asAddr (.pointer (some a)))) w).andThen _ = _
  simp [Extern.Atomic.read, asAddr, hc, Result.andThen]
theorem run_call_storeN {k : IntKind} (hf : P.funcs[f]? = some fn) (hname : (fn.name == "runtime.NumGoroutine") = false) (hb : fn.body.isNone = true) (hn : Extern.findNext fn = none)
    (he : Extern.find fn = some Extern.Atomic.storeT) {a : Addr} {x : Int} {u : Value} {w : World} (hc : w.cell? a = some u) (hz : w.frozen? a = false) :
    (callFunc f #[.pointer (some a), .int k x]).run P w = .ok (.value (.tuple #[])) (w.setCell a (.int k x)) := by
  rw [run_callFunc_extern hf hname hb hn he]
  change (Sem.run P (do
    store (← asAddr (.pointer (some a))) (.int k x) .atomic
    pure Extern.Atomic.none_) w).andThen _ = _
  simp [asAddr, hc, hz, run_store P w a (.int k x) .atomic rfl, Result.andThen, Extern.Atomic.none_]
theorem run_call_addN (hf : P.funcs[f]? = some fn) (hname : (fn.name == "runtime.NumGoroutine") = false) (hb : fn.body.isNone = true) (hn : Extern.findNext fn = none)
    (he : Extern.find fn = some (Extern.Atomic.update (Op.intArith .add) .i64 true)) {a : Addr} {x d : Int} {w : World} (hc : w.cell? a = some (.int .i64 x)) (hz : w.frozen? a = false) :
    (callFunc f #[.pointer (some a), .int .i64 d]).run P w = .ok (.value (.int .i64 (IntKind.i64.wrap (x + d)))) (w.setCell a (.int .i64 (IntKind.i64.wrap (x + d)))) := by
  rw [run_callFunc_extern hf hname hb hn he]
  change (Sem.run P (do
    let a ← asAddr (.pointer (some a))
    let old ← Extern.Atomic.read (.int .i64) a
    let new ← Op.intArith .add .i64 (← asInt old) (← asInt (.int .i64 d))
    store a new .atomic
    pure (if true then new else old)) w).andThen _ = _
  simp [Extern.Atomic.read, asAddr, asInt, asIntOf, Op.intArith, hc, hz, run_store P w a (.int .i64 (IntKind.i64.wrap (x + d))) .atomic rfl, Result.andThen]
end
theorem sload_any (b o : Nat) (n : Int) (w : World) (h : w.cell? ⟨b, o, none⟩ = some (.int .i64 n)) : Calls Tryz.prog 70 #[.pointer (some ⟨b, o, none⟩)] w fun e w' => e = .returned (.int .i64 n) ∧ w = w' := by
  have hl := run_call_loadN (P := Tryz.prog) (f := 117) (k := .i64) Tryz.func117 (by kernel_rfl) (by kernel_rfl) (by kernel_rfl) (by kernel_rfl) h
  go_enter Tryz.func70, Tryz.ntmps70
  go_wp2_with fail
  go_ret
  exact ⟨rfl, rfl⟩
theorem sstore_any (b o : Nat) (n m : Int) (w : World) (h : w.cell? ⟨b, o, none⟩ = some (.int .i64 n)) (hf : w.frozen? ⟨b, o, none⟩ = false) : Calls Tryz.prog 110 #[.pointer (some ⟨b, o, none⟩), .int .i64 m] w fun e w' => e = .returned (.tuple #[]) ∧ w' = w.setCell ⟨b, o, none⟩ (.int .i64 m) := by
  have hl := run_call_storeN (P := Tryz.prog) (f := 149) (k := .i64) (x := m) Tryz.func149 (by kernel_rfl) (by kernel_rfl) (by kernel_rfl) (by kernel_rfl) h hf
  go_enter Tryz.func110, Tryz.ntmps110
  go_wp2_with fail
  go_end0
  exact ⟨rfl, rfl⟩
theorem sadd_any (b o : Nat) (n d : Int) (w : World) (h : w.cell? ⟨b, o, none⟩ = some (.int .i64 n)) (hf : w.frozen? ⟨b, o, none⟩ = false) (hr : IntKind.i64.wrap (n + d) = n + d) : Calls Tryz.prog 71 #[.pointer (some ⟨b, o, none⟩), .int .i64 d] w fun e w' => e = .returned (.int .i64 (n + d)) ∧ w' = w.setCell ⟨b, o, none⟩ (.int .i64 (n + d)) := by
  have hl := run_call_addN (P := Tryz.prog) (f := 118) (d := d) Tryz.func118 (by kernel_rfl) (by kernel_rfl) (by kernel_rfl) (by kernel_rfl) h hf
  rw [hr] at hl
  clear hr
  go_enter Tryz.func71, Tryz.ntmps71
  go_wp2_with fail
  go_ret
  exact ⟨rfl, rfl⟩
end Go.Proofs.YthnajpckhoomgaaGreat
namespace Go.Proofs.YthnajpckhoomgaaGreat
set_option maxRecDepth 100000
set_option linter.unusedVariables false
open Go.RowKit

section
variable (R : RowT)
def NewR (wo : World) (S : Nat) (v : Value) (zs : List R.α) (n : Nat) : Ty := fun u w => ∃ g cap, u = .slice (some ⟨g, 0, none⟩) n cap ∧ w.ownsRow S R.T R.K u zs.length (gflat R zs) ∧ (v.ownBlock = some g ∨ wo.heap.size ≤ g)
variable {R}
theorem NewR.keeps {wo : World} {S n : Nat} {v : Value} {zs : List R.α} {row : Option Nat} (s : Nat) : T3.Keeps (GX row s) s (NewR R wo S v zs n) := by
  rintro j hj u w w' ⟨g, cap, h1, h2, h3⟩ hx
  unfold GX at hx
  rw [if_neg hj] at hx
  exact ⟨g, cap, h1, gown_below h2 hx, h3⟩
variable (R)
/-- One more: the elder row is there as it was; the new one lies in its block, or in a new one. -/
theorem run_gappr (w : World) (S : Nat) (v : Value) (xs : List R.α) (hown : w.ownsRow S R.T R.K v xs.length (gflat R xs)) (b : Nat) (y : R.α) (hy : GC R w b 0 y) (hl : xs.length ≤ 3000) (hS : S ≤ w.heap.size) {ty : TypeId} :
    ∃ g cap w', (Builtin.append_ #[R.SL, R.SL] ty #[v, .slice (some ⟨b, 0, none⟩) 1 1]).run Tryz.prog w = .ok (.slice (some ⟨g, 0, none⟩) (xs.length + 1) cap) w' ∧ w'.ownsRow S R.T R.K (.slice (some ⟨g, 0, none⟩) (xs.length + 1) cap) (xs ++ [y]).length (gflat R (xs ++ [y])) ∧ w.grownBy w' v.ownBlock ∧ w'.ownsRow S R.T R.K v xs.length (gflat R xs) ∧ (v.ownBlock = some g ∨ w.heap.size ≤ g) := by
  obtain ⟨g, cap, w1, hr, h2, h3, h4⟩ := run_gapp (R := R) w ty S v xs hown b y hy hl hS
  obtain ⟨g2, cap2, w2, hr2, _, _, h5⟩ := run_gapp2 R w ty S v xs hown b y hy hl hS
  have e := hr.symm.trans hr2
  simp only [Result.ok.injEq, Value.slice.injEq, Option.some.injEq, Addr.mk.injEq, and_true, true_and] at e
  obtain ⟨⟨e1, _⟩, _⟩ := e
  exact ⟨g, cap, w1, hr, h2, h3, h4, e1 ▸ h5⟩
end
set_option maxHeartbeats 4000000 in
theorem pnew_any (win tries : Int) (w : World) : Calls Tryz.prog 29 #[.int .i64 win, .int .i64 tries] w fun e w' => Below w.heap.size w w' ∧ ((¬ nwOk win tries ∧ e = .returned (.tuple #[.pointer none, .int .i64 1])) ∨ (nwOk win tries ∧ ∃ b F, e = .returned (.tuple #[.pointer (some ⟨b, 0, none⟩), .int .i64 0]) ∧ PS w' F b (sd0 win tries) ∧ ∀ k, F k → w.heap.size ≤ k)) := by
  obtain ⟨W1, hW1⟩ : ∃ W1, w.alloc (.cells #[.int .i64 (sd0 win tries).win, .int .i64 (sd0 win tries).tries, .int .i64 (sd0 win tries).nx, .slice none 0 0, .slice none 0 0] 123) = W1 := ⟨_, rfl⟩
  have hb1 : Below w.heap.size w W1 := hW1 ▸ (Below.refl _ w).alloc (Nat.le_refl _) _
  have hs1 : W1.heap.size = w.heap.size + 1 := by rw [← hW1]; simp
  have hp : W1.heap[w.heap.size]? = some (.cells #[.int .i64 (sd0 win tries).win, .int .i64 (sd0 win tries).tries, .int .i64 (sd0 win tries).nx, .slice none 0 0, .slice none 0 0] 123) := by rw [← hW1]; exact heap_alloc_new w _
  by_cases hok : nwOk win tries
  · have HPS : Hid (PS W1 (fun k => k = w.heap.size) w.heap.size (sd0 win tries)) := ⟨sdok_new hok, [], .slice none 0 0, .slice none 0 0, ⟨fun k hk => by omega, rfl, hp, OwO_nil W1 0, fun g hg => (by cases hg), ⟨rfl, .inl ⟨rfl, rfl⟩⟩, fun g hg => (by cases hg), rfl, List.nodup_nil, fun z hz => absurd hz List.not_mem_nil⟩⟩
    have HOK := Lib.hid hok
    have HB1 := Lib.hid hb1
    have HW1 : Hid (w.alloc (.cells #[.int .i64 win, .int .i64 tries, .int .i64 0, .slice none 0 0, .slice none 0 0] 123) = W1) := hW1
    have d1 : decide (win < 1) = false := decide_eq_false (by have := hok.1.1; omega)
    have d2 : decide (16 < win) = false := decide_eq_false (by have := hok.1.2; omega)
    have d3 : decide (tries < 1) = false := decide_eq_false (by have := hok.2.1; omega)
    have d4 : decide (100 < tries) = false := decide_eq_false (by have := hok.2.2; omega)
    have n1 : ¬ win < 1 := of_decide_eq_false d1
    have n2 : ¬ (16 : Int) < win := of_decide_eq_false d2
    have n3 : ¬ tries < 1 := of_decide_eq_false d3
    have n4 : ¬ (100 : Int) < tries := of_decide_eq_false d4
    clear hok hb1 hW1 hp hs1
    go_enter Tryz.func29, Tryz.ntmps29
    go_wp2_with fail
    rw [HW1.out]
    go_ret2
    exact ⟨HB1.out, .inr ⟨HOK.out, w.heap.size, rfl, fun k => k = w.heap.size, HPS.out, fun k hk => Nat.le_of_eq hk.symm⟩⟩
  · have HOK := Lib.hid hok
    have hq : win < 1 ∨ (16 : Int) < win ∨ tries < 1 ∨ (100 : Int) < tries := by unfold nwOk at hok; omega
    clear hok hb1 hW1 hp hs1
    by_cases n1 : win < 1
    · go_enter Tryz.func29, Tryz.ntmps29
      go_wp2_with fail
      go_ret2
      exact ⟨Below.refl _ _, .inl ⟨HOK.out, rfl⟩⟩
    by_cases n2 : (16 : Int) < win
    · clear hq
      go_enter Tryz.func29, Tryz.ntmps29
      go_wp2_with fail
      go_ret2
      exact ⟨Below.refl _ _, .inl ⟨HOK.out, rfl⟩⟩
    by_cases n3 : tries < 1
    · clear hq
      go_enter Tryz.func29, Tryz.ntmps29
      go_wp2_with fail
      go_ret2
      exact ⟨Below.refl _ _, .inl ⟨HOK.out, rfl⟩⟩
    have n4 : (100 : Int) < tries := by omega
    clear hq
    go_enter Tryz.func29, Tryz.ntmps29
    go_wp2_with fail
    go_ret2
    exact ⟨Below.refl _ _, .inl ⟨HOK.out, rfl⟩⟩
end Go.Proofs.YthnajpckhoomgaaGreat
namespace Go.Proofs.YthnajpckhoomgaaGreat
set_option maxRecDepth 100000
set_option linter.unusedVariables false
open Go.RowKit

theorem OwO.mono0 {w : World} {S S' : Nat} {v : Value} {l : List Ob} (h : OwO w S v l) (hS : S' ≤ S) : OwO w S' v l := gown_mono h hS
theorem oclone_any (v : Value) (ys : List Ob) (w : World) (h : Os w v ys) (hl : ys.length ≤ 3000) : Calls Tryz.prog 80 #[v] w fun e w' => (∃ a c, e = .returned (.slice a ys.length c) ∧ OwO w' w.heap.size (.slice a ys.length c) ys) ∧ Below w.heap.size w w' := by
  obtain ⟨a, c, rfl⟩ := h.form
  cases a with
  | none =>
    obtain ⟨rfl, rfl⟩ : ys = [] ∧ c = 0 := by
      rcases h with ⟨a, cap, hv, hc, rfl⟩ | ⟨b, off, cap, hv, _⟩
      · cases hv; exact ⟨rfl, hc rfl⟩
      · cases hv
    have q22 : ∀ w, (binOp .eql 51 (.slice none 0 0) (.slice none 0 0)).run Tryz.prog w = .ok (.bool true) w := fun w => Lib.run_eql_slice_nil w 51 39 none 0 0 0 0 underSL
    clear h
    show Calls Tryz.prog 80 #[.slice none 0 0] w _
    go_enter Tryz.func80, Tryz.ntmps80
    go_wp2_with fail
    go_ret
    exact ⟨⟨none, 0, rfl, OwO_nil w _⟩, Below.refl _ _⟩
  | some ad =>
    have q22 : ∀ w, (binOp .eql 51 (.slice (some ad) ys.length c) (.slice none 0 0)).run Tryz.prog w = .ok (.bool false) w := fun w => Lib.run_eql_slice_nil w 51 39 (some ad) ys.length c 0 0 underSL
    obtain ⟨V, hV⟩ : ∃ V, w.alloc (.cells #[] 39) = V := ⟨_, rfl⟩
    have hb : Below w.heap.size w V := hV ▸ (Below.refl _ w).alloc (Nat.le_refl _) _
    have ho : OwO V w.heap.size (.slice (some ⟨w.heap.size, 0, none⟩) 0 0) [] := hV ▸ World.ownsRow_made (e := 39) (size := 12) w #[] 0 (Nat.le_refl _) (by decide) rfl
    obtain ⟨r, w2, hr, ho2, hg, _⟩ := run_gappo V 51 w.heap.size _ [] ho _ ys (h.below hb) (by simp; omega) hb.size
    rw [List.nil_append] at ho2
    have hb2 : Below w.heap.size w w2 := hb.grown hg hb.size (fun k hk => (World.ownsRow.lt ho k hk).1)
    obtain ⟨a2, c2, rfl⟩ := own_form ho2
    have HO := Lib.hid ho2
    have HB := Lib.hid hb2
    rw [← hV] at hr
    clear h hb ho hg ho2 hb2 hV
    go_enter Tryz.func80, Tryz.ntmps80
    go_wp2_with (at_builtin; refine app_go rfl (.tmp 5) (.tmp 6) 51 rfl _ _ _ _ rfl rfl hr ?_)
    go_ret
    exact ⟨⟨a2, c2, rfl, HO.out⟩, HB.out⟩
def NewCl (V : World) (l : List Ob) : Ty := fun v w => ∃ a c, v = .slice a l.length c ∧ OwO w V.heap.size (.slice a l.length c) l
theorem NewCl.keeps (V : World) (l : List Ob) (k : Nat) : T3.Keeps (fun _ w w' => Below w.heap.size w w') k (NewCl V l) := fun _ _ _ _ _ ⟨a, c, h1, h2⟩ hb => ⟨a, c, h1, h2.below hb⟩
def NewBd (V : World) (n : Int) (l : List Ob) : Ty := fun v w => ∃ a c, v = .agg #[.int .i64 n, .slice a l.length c] ∧ OwO w V.heap.size (.slice a l.length c) l
theorem NewBd.keeps (V : World) (n : Int) (l : List Ob) (k : Nat) : T3.Keeps (fun _ w w' => Below w.heap.size w w') k (NewBd V n l) := fun _ _ _ _ _ ⟨a, c, h1, h2⟩ hb => ⟨a, c, h1, h2.below hb⟩
def NewBr (V : World) (n : Int) (l : List Ob) : Ty := fun v w => ∃ b a c, v = .slice (some ⟨b, 0, none⟩) 1 1 ∧ V.heap.size ≤ b ∧ w.cell? ⟨b, 0, none⟩ = some (.int .i64 n) ∧ w.cell? ⟨b, 1, none⟩ = some (.slice a l.length c) ∧ OwO w V.heap.size (.slice a l.length c) l
theorem NewBr.keeps (V : World) (n : Int) (l : List Ob) (k : Nat) : T3.Keeps (fun _ w w' => Below w.heap.size w w') k (NewBr V n l) := fun _ _ _ _ _ ⟨b, a, c, h1, h2, h3, h4, h5⟩ hb =>
  have hl := World.block_lt_of_cell? _ _ h3
  ⟨b, a, c, h1, h2, (hb.cell (p := ⟨b, 0, none⟩) hl).trans h3, (hb.cell (p := ⟨b, 1, none⟩) hl).trans h4, h5.below hb⟩
/-- One batch more, read where it lies. -/
theorem run_bapp2 (w : World) (ty : TypeId) (S : Nat) (v : Value) (bs : List Bt) (hrow : RowB w S v bs) (b : Nat) (N : Int) (a : Option Addr) (c : Nat) (ys : List Ob) (h0 : w.cell? ⟨b, 0, none⟩ = some (.int .i64 N)) (h1 : w.cell? ⟨b, 1, none⟩ = some (.slice a ys.length c)) (ho : OwO w S (.slice a ys.length c) ys) (h63 : bs.length ≤ 3000) (hS : S ≤ w.heap.size) :
    ∃ r w', (Builtin.append_ #[93, 93] ty #[v, .slice (some ⟨b, 0, none⟩) 1 1]).run Tryz.prog w = .ok r w' ∧ RowB w' S r (bs ++ [(N, ys)]) ∧ Below S w w' := by
  obtain ⟨i0, hi, hz0, hz1, hz2⟩ := info_parts infoBT
  obtain ⟨vs, k1, k2, k3⟩ := hrow
  obtain ⟨r, w', hr, h2, h3, _, _⟩ := run_append_own_at (P := Tryz.prog) w S 93 ty 69 i0 _ 2 32 underBS hi hz0 hz1 hz2 rfl (by decide) v bs.length (flat2 vs) k2 ⟨b, 0, none⟩ 1 1 [.int .i64 N, .slice a ys.length c] rfl (by
    intro j u hj
    rw [add_spot]
    have hj2 : j < 2 := (List.getElem?_eq_some_iff.1 hj).1
    have : j = 0 ∨ j = 1 := by omega
    rcases this with rfl | rfl
    · simp at hj; subst hj; exact h0
    · simp at hj; subst hj; exact h1) (by
    intro u hu
    simp at hu
    rcases hu with rfl | rfl <;> rfl) (by unfold maxLen; omega) (by omega) hS
  refine ⟨r, w', hr, ⟨vs ++ [(N, Value.slice a ys.length c)], by simp [k1], ?_, fun i hi2 => ?_⟩, (Below.refl _ w).grown h3 hS (fun k hk => (k2.lt k hk).1)⟩
  · have e : flat2 (vs ++ [(N, Value.slice a ys.length c)]) = flat2 vs ++ [.int .i64 N, .slice a ys.length c] := by rw [flat2_app]; rfl
    rw [e, show (bs ++ [(N, ys)]).length = bs.length + 1 by simp]
    exact h2
  · have hlen : i < bs.length + 1 := by simpa using hi2
    by_cases h9 : i < bs.length
    · have e1 : (vs ++ [(N, Value.slice a ys.length c)]).getD i zv = vs.getD i zv := by simp [List.getD, List.getElem?_append, k1, h9]
      have e2 : (bs ++ [(N, ys)]).getD i zb = bs.getD i zb := by simp [List.getD, List.getElem?_append, h9]
      rw [e1, e2]
      exact ⟨(k3 i h9).1, (k3 i h9).2.kept h3 (apart2 (k3 i h9).2 k2)⟩
    · have e : i = bs.length := by omega
      subst e
      have e1 : (vs ++ [(N, Value.slice a ys.length c)]).getD bs.length zv = (N, Value.slice a ys.length c) := by rw [← k1]; simp [List.getD]
      have e2 : (bs ++ [(N, ys)]).getD bs.length zb = (N, ys) := by simp [List.getD]
      rw [e1, e2]
      exact ⟨rfl, World.ownsRow.kept ho h3 (apart2 ho k2)⟩
/-- What lies at a pointer reads as a batch. -/
def RdP (w : World) (p : Nat) (x : Bt) : Prop := w.cell? ⟨p, 0, none⟩ = some (.int .i64 x.1) ∧ ∃ u, w.cell? ⟨p, 1, none⟩ = some u ∧ Os w u x.2
theorem RdP.lt {w : World} {p : Nat} {x : Bt} (h : RdP w p x) : p < w.heap.size := World.block_lt_of_cell? w _ h.1
theorem RdP.below {w w' : World} {p : Nat} {x : Bt} (h : RdP w p x) (hb : Below w.heap.size w w') : RdP w' p x := by
  have hp := h.lt
  obtain ⟨h1, u, h2, h3⟩ := h
  exact ⟨(hb.cell (p := ⟨p, 0, none⟩) hp).trans h1, u, (hb.cell (p := ⟨p, 1, none⟩) hp).trans h2, h3.below hb⟩
theorem SndAt.rd {w : World} {F : Nat → Prop} {vW : Value} {p : Nat} {e : Bt × Int} (h : SndAt w F vW p e) : RdP w p e.1 := by
  obtain ⟨u, h1, h2⟩ := h.cell
  exact ⟨by simp [World.cell?, h1], u, by simp [World.cell?, h1], h2.os⟩
theorem RowB.form' {w : World} {S : Nat} {v : Value} {bs : List Bt} (h : RowB w S v bs) : ∃ a c, v = .slice a bs.length c := by
  obtain ⟨vs, h1, h2, h3⟩ := h
  exact gown_form h2
theorem pt_at {w : World} {a : Option Addr} {c : Nat} {ps : List Nat} (h : Gs RPT w (.slice a ps.length c) ps) {i : Nat} (hi : i < ps.length) : ∃ b off, a = some ⟨b, off, none⟩ ∧ b < w.heap.size ∧ w.cell? ⟨b, off + i, none⟩ = some (ptr (ps.getD i 0)) := by
  obtain ⟨b, off, h1, h2, h3⟩ := Gs.at (R := RPT) h hi
  have := h3 0 (by decide)
  rw [show off + i * RPT.K + 0 = off + i from congrArg (off + ·) (Nat.mul_one i)] at this
  exact ⟨b, off, h1, h2, this⟩
set_option maxHeartbeats 8000000 in
theorem bof_any (a : Option Addr) (c : Nat) (ps : List Nat) (bs : List Bt) (w : World) (hv : Gs RPT w (.slice a ps.length c) ps) (hl : bs.length = ps.length) (hz : ∀ i, i < ps.length → RdP w (ps.getD i 0) (bs.getD i zb)) (hn : ps.length ≤ 1000) (hb : ∀ i, i < ps.length → (bs.getD i zb).2.length ≤ 3000) :
    Calls Tryz.prog 62 #[.slice a ps.length c] w fun e w' => ∃ r, e = .returned r ∧ RowB w' w.heap.size r bs ∧ Below w.heap.size w w' := by
  have HV := Lib.hid hv
  have HL := Lib.hid hl
  have HZ := Lib.hid hz
  have HN := Lib.hid hn
  have HBL := Lib.hid hb
  clear hv hl hz hb
  go_enter Tryz.func62, Tryz.ntmps62
  go_wp2_with fail
  go_loopw [3, 8] (fun lv iv wr => ∃ (k : Nat) (ax : Option Addr) (cx : Nat), k ≤ ps.length ∧ iv = .int .i64 k ∧ lv = .slice ax k cx ∧ Hid (RowB wr w.heap.size (.slice ax k cx) (bs.take k)) ∧ Hid (Below w.heap.size w wr)) (fun _ i _ => ps.length - (intOf i).toNat)
  case atStart => exact ⟨0, none, 0, Nat.zero_le _, rfl, rfl, RowB_nil _ _, Below.refl _ _⟩
  case round =>
    obtain ⟨k, ax, cx, hk, rfl, rfl, HR, HB⟩ := hrel
    by_cases hlt : k < ps.length
    · obtain ⟨b2, off, rfl, hb2, hc0⟩ := pt_at HV.out hlt
      obtain ⟨hq0, u, hq1, hq2⟩ := HZ.out k hlt
      have hql := HBL.out k hlt
      have hst : bs.take (k + 1) = bs.take k ++ [bs.getD k zb] := by rw [List.take_succ_eq_append_getElem (by have := HL.out; omega)]; simp [List.getD, show k < bs.length by have := HL.out; omega]
      obtain ⟨p, hp⟩ : ∃ p, ps.getD k 0 = p := ⟨_, rfl⟩
      obtain ⟨x, hx⟩ : ∃ x, bs.getD k zb = x := ⟨_, rfl⟩
      rw [hp] at hc0 hq0 hq1
      rw [hx] at hq0 hq2 hql hst
      obtain ⟨n, ys⟩ := x
      obtain ⟨a0, c0, rfl⟩ := hq2.form
      have HYL : Hid (ys.length ≤ 3000) := hql
      have hpl : p < w.heap.size := World.block_lt_of_cell? w _ hq0
      have HOS := Lib.hid (hq2.below HB.out)
      have hltz : (k : Int) < ps.length := by omega
      have e0 : wr.cell? ⟨b2, off + k, none⟩ = some (ptr p) := (HB.out.cell (p := ⟨b2, off + k, none⟩) hb2).trans hc0
      have e1 : wr.cell? ⟨p, 0, none⟩ = some (.int .i64 n) := (HB.out.cell (p := ⟨p, 0, none⟩) hpl).trans hq0
      have e2 : wr.cell? ⟨p, 1, none⟩ = some (.slice a0 ys.length c0) := (HB.out.cell (p := ⟨p, 1, none⟩) hpl).trans hq1
      have hpr : p < wr.heap.size := World.block_lt_of_cell? wr _ e1
      have kc : ∀ w', Below wr.heap.size wr w' → w'.cell? ⟨p, 0, none⟩ = some (.int .i64 n) ∧ w'.cell? ⟨p, 1, none⟩ = some (.slice a0 ys.length c0) := fun w' h => ⟨(h.cell (p := ⟨p, 0, none⟩) hpr).trans e1, (h.cell (p := ⟨p, 1, none⟩) hpr).trans e2⟩
      have HST := Lib.hid hst
      have HPL := Lib.hid hpr
      clear hp hx hst hq0 hq1 hq2 hql hc0 hb2 hpl e1 e2 hpr
      go_upto_region 5 with (fail)
      clear e0
      refine T3.wp_region_tailT (C := fun w' => Below wr.heap.size wr w') (X := fun _ w w' => Below w.heap.size w w') (n := 29) 14 (by kernel_rfl) (by kernel_rfl) (by kernel_rfl) (by kernel_rfl) rfl (fun _ w => Below.refl _ w) (Below.refl _ _).drew ?_
      simp only [List.take_succ_cons, List.take_zero, List.drop_succ_cons, List.drop_zero]
      refine T3.w_is (fun _ w => Below.refl _ w) rfl _ (.inl rfl) (fun ρ w hC hc hfn hf => by have e3 : ρ (.tmp 3) = _ := hf 3 (by decide); (conv => lhs; simp [execOp, go_sem, hc, e3])) ?_
      refine T3.w_is (fun _ w => Below.refl _ w) rfl _ (.inl rfl) (fun ρ w hC hc hfn hf => by have e5 : ρ (.tmp 5) = _ := hf 5 (by decide); (conv => lhs; simp [execOp, go_sem, hc, e5])) ?_
      refine T3.w_is (fun _ w => Below.refl _ w) rfl _ (.inl rfl) (fun ρ w hC hc hfn hf => by have e13 : ρ (.tmp 13) = _ := hf 13 (by decide); (conv => lhs; simp [execOp, go_sem, hc, e13])) ?_
      refine T3.w_is (fun _ w => Below.refl _ w) rfl _ (.inl rfl) (fun ρ w hC hc hfn hf => by have e14 : ρ (.tmp 14) = _ := hf 14 (by decide); (conv => lhs; simp [execOp, go_sem, hc, e14])) ?_
      refine T3.w_is (fun _ w => Below.refl _ w) rfl _ (.inl rfl) (fun ρ w hC hc hfn hf => by have e15 : ρ (.tmp 15) = _ := hf 15 (by decide); (conv => lhs; simp [execOp, go_sem, hc, e15])) ?_
      refine T3.w_is (fun _ w => Below.refl _ w) rfl _ (.inl rfl) (fun ρ w hC hc hfn hf => by have e16 : ρ (.tmp 16) = _ := hf 16 (by decide); (conv => lhs; simp [execOp, go_sem, hc, e16, kc w hC])) ?_
      refine T3.w_is (fun _ w => Below.refl _ w) rfl _ (.inl rfl) (fun ρ w hC hc hfn hf => by have e5 : ρ (.tmp 5) = _ := hf 5 (by decide); (conv => lhs; simp [execOp, go_sem, hc, e5])) ?_
      refine T3.w_is (fun _ w => Below.refl _ w) rfl _ (.inl rfl) (fun ρ w hC hc hfn hf => by have e18 : ρ (.tmp 18) = _ := hf 18 (by decide); (conv => lhs; simp [execOp, go_sem, hc, e18])) ?_
      refine T3.w_is (fun _ w => Below.refl _ w) rfl _ (.inl rfl) (fun ρ w hC hc hfn hf => by have e19 : ρ (.tmp 19) = _ := hf 19 (by decide); (conv => lhs; simp [execOp, go_sem, hc, e19])) ?_
      refine T3.w_is (fun _ w => Below.refl _ w) rfl _ (.inl rfl) (fun ρ w hC hc hfn hf => by have e20 : ρ (.tmp 20) = _ := hf 20 (by decide); (conv => lhs; simp [execOp, go_sem, hc, e20])) ?_
      refine T3.w_is (fun _ w => Below.refl _ w) rfl _ (.inl rfl) (fun ρ w hC hc hfn hf => by have e21 : ρ (.tmp 21) = _ := hf 21 (by decide); (conv => lhs; simp [execOp, go_sem, hc, e21, kc w hC])) ?_
      refine T3.w_call rfl (NewCl wr ys) (NewCl.keeps wr _ 11) 80 (.inl rfl) (fun ρ w hC hc hfn hf => by have e22 : ρ (.tmp 22) = _ := hf 22 (by decide); exact ⟨_, by (conv => lhs; simp [execOp, resolve, invoke, go_sem, hc, hfn, e22]), (oclone_any (.slice a0 ys.length c0) ys w (HOS.out.below hC) HYL.out).mono fun e w' h => by obtain ⟨⟨a, c, h1, h2⟩, h3⟩ := h; exact ⟨_, h1, hC.trans (h3.mono hC.size), h3, ⟨a, c, rfl, h2.mono0 hC.size⟩⟩⟩) ?_
      refine T3.w_make rfl (NewBd wr n ys) (NewBd.keeps wr n ys 12) (.inl rfl) (fun ρ w hC hc hfn hf => by have e17 : ρ (.tmp 17) = _ := hf 17 (by decide); obtain ⟨a2, c2, e23, ho⟩ := (show (NewCl wr ys) (ρ (.tmp 23)) w from hf 23 (by decide)); exact ⟨_, _, by (conv => lhs; simp [execOp, go_sem, hc, e17, e23]), hC, Below.refl _ _, ⟨a2, c2, rfl, ho⟩⟩) ?_
      refine T3.w_make rfl (NewBr wr n ys) (NewBr.keeps wr n ys 13) (.inl rfl) (fun ρ w hC hc hfn hf => by obtain ⟨a2, c2, e24, ho⟩ := (show (NewBd wr n ys) (ρ (.tmp 24)) w from hf 24 (by decide)); exact ⟨_, _, by (conv => lhs; simp [execOp, go_sem, hc, e24]), hC.trans (((Below.refl _ w).alloc (Nat.le_refl _) _).mono hC.size), (Below.refl _ w).alloc (Nat.le_refl _) _, ⟨w.heap.size, a2, c2, rfl, hC.size, by simp, by simp, ho.below ((Below.refl _ w).alloc (Nat.le_refl _) _)⟩⟩) ?_
      intro A V5 hC hn hd hf
      obtain ⟨a2, c2, y23, -⟩ := (show (NewCl wr ys) (A.eval (.tmp 23)) V5 from hf 23)
      obtain ⟨a3, c3, y24, -⟩ := (show (NewBd wr n ys) (A.eval (.tmp 24)) V5 from hf 24)
      obtain ⟨bq, a4, c4, y25, hb0, hbc0, hbc1, ho⟩ := (show (NewBr wr n ys) (A.eval (.tmp 25)) V5 from hf 25)
      have y0 : A.eval (.tmp 0) = _ := Eq.trans (hf 0) (by conv => lhs; simp [go_sem])
      have y1 : A.eval (.tmp 1) = _ := Eq.trans (hf 1) (by conv => lhs; simp [go_sem])
      have y2 : A.eval (.tmp 2) = _ := Eq.trans (hf 2) (by conv => lhs; simp [go_sem])
      have y3 : A.eval (.tmp 3) = _ := Eq.trans (hf 3) (by conv => lhs; simp [go_sem])
      have y4 : A.eval (.tmp 4) = _ := Eq.trans (hf 4) (by conv => lhs; simp [go_sem])
      have y5 : A.eval (.tmp 5) = _ := Eq.trans (hf 5) (by conv => lhs; simp [go_sem])
      have y6 : A.eval (.tmp 6) = _ := Eq.trans (hf 6) (by conv => lhs; simp [go_sem])
      have y7 : A.eval (.tmp 7) = _ := Eq.trans (hf 7) (by conv => lhs; simp [go_sem])
      have y8 : A.eval (.tmp 8) = _ := Eq.trans (hf 8) (by conv => lhs; simp [go_sem])
      have y9 : A.eval (.tmp 9) = _ := Eq.trans (hf 9) (by conv => lhs; simp [go_sem])
      have y10 : A.eval (.tmp 10) = _ := Eq.trans (hf 10) (by conv => lhs; simp [go_sem])
      have y11 : A.eval (.tmp 11) = _ := Eq.trans (hf 11) (by conv => lhs; simp [go_sem])
      have y12 : A.eval (.tmp 12) = _ := hf 12
      have y13 : A.eval (.tmp 13) = _ := hf 13
      have y14 : A.eval (.tmp 14) = _ := hf 14
      have y15 : A.eval (.tmp 15) = _ := hf 15
      have y16 : A.eval (.tmp 16) = _ := hf 16
      have y17 : A.eval (.tmp 17) = _ := hf 17
      have y18 : A.eval (.tmp 18) = _ := hf 18
      have y19 : A.eval (.tmp 19) = _ := hf 19
      have y20 : A.eval (.tmp 20) = _ := hf 20
      have y21 : A.eval (.tmp 21) = _ := hf 21
      have y22 : A.eval (.tmp 22) = _ := hf 22
      have y26 : A.eval (.tmp 26) = _ := Eq.trans (hf 26) (by conv => lhs; simp [go_sem])
      have y27 : A.eval (.tmp 27) = _ := Eq.trans (hf 27) (by conv => lhs; simp [go_sem])
      have y28 : A.eval (.tmp 28) = _ := Eq.trans (hf 28) (by conv => lhs; simp [go_sem])
      clear hf
      have hA := frame_eq hn
      rw [show List.range 29 = [0, 1, 2, 3, 4, 5, 6, 7, 8, 9, 10, 11, 12, 13, 14, 15, 16, 17, 18, 19, 20, 21, 22, 23, 24, 25, 26, 27, 28] from rfl, hd] at hA
      simp only [List.map_cons, List.map_nil, y0, y1, y2, y3, y4, y5, y6, y7, y8, y9, y10, y11, y12, y13, y14, y15, y16, y17, y18, y19, y20, y21, y22, y23, y24, y25, y26, y27, y28] at hA
      clear y0 y1 y2 y3 y4 y5 y6 y7 y8 y9 y10 y11 y12 y13 y14 y15 y16 y17 y18 y19 y20 y21 y22 y23 y24 y25 y26 y27 y28
      clear hn hd
      subst hA
      have hb5 := HB.out.trans (hC.mono HB.out.size)
      have hr5 := HR.out.below hC
      have hkl : (bs.take k).length = k := by rw [List.length_take]; have := HL.out; omega
      obtain ⟨r, w6, hr, hq, hb6⟩ := run_bapp2 V5 93 w.heap.size (.slice ax k cx) (bs.take k) hr5 bq n a4 c4 ys hbc0 hbc1 (ho.mono0 (HB.out.size)) (by have := HN.out; omega) hb5.size
      rw [← HST.out] at hq
      obtain ⟨ar, cr, rfl⟩ := hq.form'
      have hkl2 : (bs.take (k + 1)).length = k + 1 := by rw [List.length_take]; have := HL.out; omega
      rw [hkl2] at hq hr
      have HQ := Lib.hid hq
      have HB6 := Lib.hid (hb5.trans hb6)
      clear hb5 hr5 hkl hq hb6 hkl2 hC hb0 hbc0 hbc1 ho kc
      go_wp2_with (at_builtin; refine app_go rfl (.tmp 12) (.tmp 25) 93 rfl _ _ _ _ rfl rfl hr ?_)
      go_roundw
      case rel => exact ⟨k + 1, ar, cr, by omega, by go_num, rfl, HQ.out, HB6.out⟩
      case measure => simp [intOf]; omega
    · obtain rfl : k = ps.length := by omega
      have e1 : bs.take ps.length = bs := List.take_of_length_le (by rw [HL.out]; exact Nat.le_refl _)
      have HRR : Hid (RowB wr w.heap.size (.slice ax ps.length cx) bs) := by have h := HR.out; rw [e1] at h; exact h
      clear e1 HR
      go_wp2_with fail
      go_ret
      exact ⟨_, rfl, HRR.out, HB.out⟩
end Go.Proofs.YthnajpckhoomgaaGreat
namespace Go.Proofs.YthnajpckhoomgaaGreat
set_option maxRecDepth 100000
set_option linter.unusedVariables false
open Go.RowKit

section
variable {w : World} {F : Nat → Prop} {b : Nat} {s : Sd} {Z : Zs1} {vW vO : Value}
theorem pwait_any (h : PZ w F b s Z vW vO) (hl : s.W.length ≤ 3000) : Calls Tryz.prog 47 #[.pointer (some ⟨b, 0, none⟩)] w fun e w' => (∃ a c, e = .returned (.slice a s.W.length c) ∧ OwO w' w.heap.size (.slice a s.W.length c) s.W) ∧ Below w.heap.size w w' := by
  obtain ⟨a, c, rfl⟩ := h.wform
  have C1 := Lib.hid (oclone_any (.slice a s.W.length c) s.W w h.wt.os hl)
  obtain ⟨c0, c1, c2, c3, c4, cf⟩ := h.cells
  clear h hl c0 c1 c2 c4 cf
  go_enter Tryz.func47, Tryz.ntmps47
  go_wp2_with fail
  refine C1.out.mono ?_
  rintro e w1 ⟨⟨a1, c1, rfl, ho⟩, hb⟩
  have HO := Lib.hid ho
  have HB := Lib.hid hb
  clear ho hb
  go_wp2_with fail
  go_ret
  exact ⟨⟨_, _, rfl, HO.out⟩, HB.out⟩
/-- What is out, as pointers and as batches. -/
theorem PZ.outs (h : PZ w F b s Z vW vO) : (Z.map fun z => z.2.1).length = (Z.map Prod.fst).length ∧ ∀ i, i < (Z.map Prod.fst).length → RdP w ((Z.map Prod.fst).getD i 0) ((Z.map fun z => z.2.1).getD i zb) := by
  refine ⟨by simp, fun i hi => ?_⟩
  rw [List.length_map] at hi
  have e1 : (Z.map Prod.fst).getD i 0 = Z[i].1 := by simp [List.getD, hi]
  have e2 : (Z.map fun z => z.2.1).getD i zb = Z[i].2.1 := by simp [List.getD, hi]
  rw [e1, e2]
  exact (h.snd _ (List.getElem_mem hi)).rd
theorem PZ.sout (h : PZ w F b s Z vW vO) : s.out = Z.map fun z => z.2.1 := by unfold Sd.out; rw [h.zl, List.map_map]; rfl
theorem btok_len {n : Int} {ys : List Ob} (h : BtOk n ys) : ys.length ≤ 3000 := by
  have := h.2.1
  omega
theorem PZ.olen (h : PZ w F b s Z vW vO) (hok : SdOk s) : Z.length ≤ 16 ∧ ∀ i, i < (Z.map Prod.fst).length → ((Z.map fun z => z.2.1).getD i zb).2.length ≤ 3000 := by
  constructor
  · have h1 := out_le hok
    have h2 := hok.win
    rw [h.sout, List.length_map] at h1
    omega
  · intro i hi
    rw [List.length_map] at hi
    have e2 : (Z.map fun z => z.2.1).getD i zb = Z[i].2.1 := by simp [List.getD, hi]
    rw [e2]
    exact btok_len (hok.bok Z[i].2 (by rw [h.zl]; exact List.mem_map.2 ⟨Z[i], List.getElem_mem hi, rfl⟩))
theorem pout_any (h : PZ w F b s Z vW vO) (hok : SdOk s) : Calls Tryz.prog 48 #[.pointer (some ⟨b, 0, none⟩)] w fun e w' => (∃ a c, e = .returned (.slice a s.out.length c) ∧ RowB w' w.heap.size (.slice a s.out.length c) s.out) ∧ Below w.heap.size w w' := by
  obtain ⟨ps, hps⟩ : ∃ ps, Z.map Prod.fst = ps := ⟨_, rfl⟩
  obtain ⟨k1, k2⟩ := h.outs
  obtain ⟨k3, k4⟩ := h.olen hok
  have hot : OwP w vO ps := hps ▸ h.ot
  have hln : ps.length = Z.length := by rw [← hps, List.length_map]
  rw [hps] at k1 k2 k4
  rw [← h.sout] at k1 k2 k4
  obtain ⟨a, c, rfl⟩ := own_form hot
  have C1 := Lib.hid (bof_any a c ps s.out w (Gs_of_own (R := RPT) hot).1 k1 k2 (by omega) k4)
  obtain ⟨c0, c1, c2, c3, c4, cf⟩ := h.cells
  clear h hok hps k1 k2 k3 k4 hot hln c0 c1 c2 c3 cf
  go_enter Tryz.func48, Tryz.ntmps48
  go_wp2_with fail
  refine C1.out.mono ?_
  rintro e w1 ⟨r, rfl, ho, hb⟩
  obtain ⟨a1, c1, rfl⟩ := ho.form'
  have HO := Lib.hid ho
  have HB := Lib.hid hb
  clear ho hb
  go_wp2_with fail
  go_ret
  exact ⟨⟨_, _, rfl, HO.out⟩, HB.out⟩
end
theorem bts_nil (w : World) : Bts w (.slice none 0 0) [] := .inl ⟨none, 0, rfl, rfl⟩
theorem os_nil (w : World) : Os w (.slice none 0 0) [] := .inl ⟨none, 0, rfl, fun _ => rfl, rfl⟩
theorem wait_nil (w : World) : Calls Tryz.prog 47 #[.pointer none] w fun e w' => ∃ r, e = .returned r ∧ Os w' r [] ∧ Below w.heap.size w w' := by
  go_enter Tryz.func47, Tryz.ntmps47
  go_wp2_with fail
  go_ret
  exact ⟨_, rfl, os_nil _, Below.refl _ _⟩
theorem out_nil (w : World) : Calls Tryz.prog 48 #[.pointer none] w fun e w' => ∃ r, e = .returned r ∧ Bts w' r [] ∧ Below w.heap.size w w' := by
  go_enter Tryz.func48, Tryz.ntmps48
  go_wp2_with fail
  go_ret
  exact ⟨_, rfl, bts_nil _, Below.refl _ _⟩
theorem send_nil (w : World) : Calls Tryz.prog 36 #[.pointer none] w fun e w' => ∃ r, e = .returned r ∧ Bts w' r [] ∧ Below w.heap.size w w' := by
  go_enter Tryz.func36, Tryz.ntmps36
  go_wp2_with fail
  go_step3
  go_wp2_with fail
  rw [Exit.noGoto_ret]
  show bodyPost _ _ _ _ _ _
  go_ret
  exact ⟨_, rfl, bts_nil _, Below.refl _ _⟩
theorem again_nil (w : World) : Calls Tryz.prog 39 #[.pointer none] w fun e w' => ∃ r, e = .returned (.tuple #[r, .bool true]) ∧ Bts w' r [] ∧ Below w.heap.size w w' := by
  go_enter Tryz.func39, Tryz.ntmps39
  go_wp2_with fail
  go_ret2
  exact ⟨_, rfl, bts_nil _, Below.refl _ _⟩
theorem got_nil (a : Ak) (w : World) : Calls Tryz.prog 74 #[.pointer none, .agg #[.int .i64 a.1, .int .i64 a.2.1, .int .i64 a.2.2.1, .int .i64 a.2.2.2]] w fun e w' => e = .returned (.int .i64 0) ∧ Below w.heap.size w w' := by
  have hb : Below w.heap.size w (w.alloc (.cells #[.int .i64 a.1, .int .i64 a.2.1, .int .i64 a.2.2.1, .int .i64 a.2.2.2] 112)) := (Below.refl _ w).alloc (Nat.le_refl _) _
  have HB := Lib.hid hb
  clear hb
  go_enter Tryz.func74, Tryz.ntmps74
  go_wp2_with fail
  go_ret
  exact ⟨rfl, HB.out⟩
theorem push_nil (y : Ob) (w : World) : Calls Tryz.prog 32 #[.pointer none, .agg #[.int .i64 y.k, .int .i64 y.x, .bool y.n, .int .i64 y.t, .int .i64 y.o, .int .i64 y.r, .int .i64 y.d, .int .i64 y.i, .int .i64 y.p, .int .i64 y.q, .int .i64 y.s, .int .i64 y.m]] w fun e w' => e = .returned (.int .i64 3) ∧ Below w.heap.size w w' := by
  have hb : Below w.heap.size w (w.alloc (.cells #[.int .i64 y.k, .int .i64 y.x, .bool y.n, .int .i64 y.t, .int .i64 y.o, .int .i64 y.r, .int .i64 y.d, .int .i64 y.i, .int .i64 y.p, .int .i64 y.q, .int .i64 y.s, .int .i64 y.m] 39)) := (Below.refl _ w).alloc (Nat.le_refl _) _
  have HB := Lib.hid hb
  clear hb
  go_enter Tryz.func32, Tryz.ntmps32
  go_wp2_with fail
  go_ret
  exact ⟨rfl, HB.out⟩
end Go.Proofs.YthnajpckhoomgaaGreat
