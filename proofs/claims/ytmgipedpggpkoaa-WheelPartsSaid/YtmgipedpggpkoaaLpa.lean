/- thalweglaw11.WheelParts: for any script of calls and two times the law answers true; no condition. -/
import Derived.Test.YtmgipedpggpkoaaWtw
import Derived.Test.YtmgipedpggpkoaaWpg
import Derived.WalkLawsBesides
import Derived.WalkKit
import Derived.ProofKit
import Derived.OpenShut
import Derived.ShutString
import Derived.ChangeOld
import Derived.Below
namespace Go.Proofs.Ytmgipedpggpkoaa.wheelParts
open Go.ChangeShapes Go.WideShapes Go.ChangeAt Go.RowKit
open Go.ChangeMaps (open_string shut_string)
set_option linter.unusedVariables false
set_option maxRecDepth 100000

theorem own : ownKnob Try.prog.godebug = none := by kernel_rfl
theorem laidOut : laidOutB Try.prog = true := by kernel_rfl

theorem due_parts (l : List Tm) {now late : Int} (h : now ≤ late) : dueK l now ++ dueK (dueL l now) late = dueK l late ∧ dueL (dueL l now) late = dueL l late := by
  induction l with
  | nil => exact ⟨rfl, rfl⟩
  | cons y r ih =>
    unfold dueK dueL at *
    by_cases h1 : y.1 ≤ now
    · have q1 : (fun y : Tm => decide (y.1 ≤ now)) y = true := decide_eq_true h1
      have q2 : (fun y : Tm => decide (y.1 ≤ late)) y = true := decide_eq_true (by omega)
      rw [List.takeWhile_cons_of_pos (p := fun y : Tm => decide (y.1 ≤ now)) q1, List.dropWhile_cons_of_pos (p := fun y : Tm => decide (y.1 ≤ now)) q1, List.takeWhile_cons_of_pos (p := fun y : Tm => decide (y.1 ≤ late)) q2, List.dropWhile_cons_of_pos (p := fun y : Tm => decide (y.1 ≤ late)) q2, List.map_cons, List.map_cons, List.cons_append, ih.1, ih.2]
      exact ⟨rfl, rfl⟩
    · have q1 : ¬ (fun y : Tm => decide (y.1 ≤ now)) y = true := by simpa using h1
      rw [List.takeWhile_cons_of_neg (p := fun y : Tm => decide (y.1 ≤ now)) q1, List.dropWhile_cons_of_neg (p := fun y : Tm => decide (y.1 ≤ now)) q1]
      exact ⟨rfl, rfl⟩
theorem due_head (l : List Tm) (now : Int) (h : nextB (dueL l now) = true) : now < nextV (dueL l now) := by
  induction l with
  | nil => cases h
  | cons y r ih =>
    unfold dueL at *
    by_cases h1 : y.1 ≤ now
    · have q1 : (fun y : Tm => decide (y.1 ≤ now)) y = true := decide_eq_true h1
      rw [List.dropWhile_cons_of_pos (p := fun y : Tm => decide (y.1 ≤ now)) q1] at h ⊢
      exact ih h
    · have q1 : ¬ (fun y : Tm => decide (y.1 ≤ now)) y = true := by simpa using h1
      rw [List.dropWhile_cons_of_neg (p := fun y : Tm => decide (y.1 ≤ now)) q1]
      show now < y.1
      omega
theorem due_again (l : List Tm) (now : Int) : dueK (dueL l now) now = [] ∧ dueL (dueL l now) now = dueL l now := by
  have h := due_parts l (Int.le_refl now)
  refine ⟨?_, h.2⟩
  exact List.append_right_eq_self.1 h.1
theorem dueK_len (l : List Tm) (now : Int) : (dueK l now).length ≤ l.length := by
  unfold dueK
  rw [List.length_map]
  exact (List.takeWhile_sublist _).length_le
theorem dueL_len (l : List Tm) (now : Int) : (dueL l now).length ≤ l.length := (List.dropWhile_sublist _).length_le
theorem due_count {l : List Tm} (h : TOk l) (late : Int) : l.countP (fun y => decide (y.1 ≤ late)) = (dueK l late).length := by
  have hs := h.srt
  clear h
  unfold dueK
  rw [List.length_map]
  induction l with
  | nil => rfl
  | cons y r ih =>
    have h2 := List.pairwise_cons.1 hs
    by_cases h1 : y.1 ≤ late
    · have q1 : (fun y : Tm => decide (y.1 ≤ late)) y = true := decide_eq_true h1
      rw [List.countP_cons_of_pos (p := fun y : Tm => decide (y.1 ≤ late)) q1, List.takeWhile_cons_of_pos (p := fun y : Tm => decide (y.1 ≤ late)) q1, ih h2.2]
      rfl
    · have q1 : ¬ (fun y : Tm => decide (y.1 ≤ late)) y = true := by simpa using h1
      rw [List.countP_cons_of_neg (p := fun y : Tm => decide (y.1 ≤ late)) q1, List.takeWhile_cons_of_neg (p := fun y : Tm => decide (y.1 ≤ late)) q1]
      refine List.countP_eq_zero.2 fun z hz => ?_
      have := h2.1 z hz
      have h3 : ¬ z.1 ≤ late := by rcases this with h | h <;> omega
      simpa using h3
theorem cnt_stepA (l : List Tm) (late : Int) (k : Nat) (h : k < l.length) : (l.take (k + 1)).countP (fun y => decide (y.1 ≤ late)) = (l.take k).countP (fun y => decide (y.1 ≤ late)) + if (l.getD k zTm).1 ≤ late then 1 else 0 := by
  rw [tm_take l k h, List.countP_append]
  simp [List.countP_cons]
set_option maxHeartbeats 32000000 in
theorem walk {WSt : World → (Nat → Prop) → Nat → List Tm → Prop} (hc : Wc WSt) (a0 : Option Addr) (cap0 : Nat) (z0 : List OpT) (a1 : Int) (w1 : I64 a1) (a2 : Int) (w2 : I64 a2) (w : World) (w0 : Sc w (.slice a0 z0.length cap0) z0) (q0 : OpsW z0):
    Calls Try.prog 4 #[.slice a0 z0.length cap0, .int .i64 a1, .int .i64 a2] w fun e w' => e = .returned (.bool true) ∧ Below w.heap.size w w' := by
  have C1 := Lib.hid (TwoW.new hc w)
  have HK := Lib.hid w0
  have HOW := Lib.hid q0
  clear w0 q0
  go_enter Try.func4, Try.ntmps4
  go_wp2_with fail
  refine C1.out.mono ?_
  rintro e W1 ⟨ba, rfl, -, hcall⟩
  have C2 := Lib.hid hcall
  clear hcall C1
  go_wp2_with fail
  refine C2.out.mono ?_
  rintro e W2 ⟨bb, rfl, hq⟩
  have HQ := Lib.hid hq
  clear hq C2
  by_cases hl : (100 : Int) < (z0.length : Int)
  · have hd : decide ((100 : Int) < (z0.length : Int)) = true := decide_eq_true hl
    have C9 := Lib.hid (awake11 hc W2)
    go_wp2_with fail
    refine C9.out.mono ?_
    rintro e W9 ⟨rfl, hb⟩
    have HB9 := Lib.hid (HQ.out.bel.trans (hb.mono HQ.out.bel.size))
    clear hb C9
    go_wp2_with fail
    go_ret
    exact ⟨rfl, HB9.out⟩
  · have hd : decide ((100 : Int) < (z0.length : Int)) = false := decide_eq_false hl
    have hl2 : z0.length ≤ 100 := by omega
    clear hl
    by_cases hlate : a2 < a1
    · have hd2 : decide (a2 < a1) = true := decide_eq_true hlate
      have C9 := Lib.hid (awake11 hc W2)
      go_wp2_with fail
      refine C9.out.mono ?_
      rintro e W9 ⟨rfl, hb⟩
      have HB9 := Lib.hid (HQ.out.bel.trans (hb.mono HQ.out.bel.size))
      clear hb C9
      go_wp2_with fail
      go_ret
      exact ⟨rfl, HB9.out⟩
    · have hd2 : decide (a2 < a1) = false := decide_eq_false hlate
      have HLT : Hid (a1 ≤ a2) := by show _ ≤ _; omega
      go_wp2_with fail
      clear hd hd2 hlate
      go_loopw [9] (fun i wr => ∃ (k : Nat) (L : List Tm), k ≤ z0.length ∧ i = .int .i64 k ∧ TwoW WSt w wr (fun _ => False) ba bb L L) (fun i _ => z0.length - (intOf i).toNat)
      case atStart => exact ⟨0, [], Nat.zero_le _, rfl, HQ.out⟩
      case round =>
        obtain ⟨k, L, hk, rfl, hq⟩ := hrel
        have HR := Lib.hid hq
        clear hq
        by_cases hlt : k < z0.length
        · obtain ⟨b2, off, rfl, hB, p0, p1, p2⟩ := (HK.out.below (HR.out.bel.mono (Nat.le_refl _))).at hlt
          obtain ⟨y, hy⟩ : ∃ y, z0.getD k zOp = y := ⟨_, rfl⟩
          have HYW : Hid (OpW y) := hy ▸ HOW.out.at hlt
          rw [hy] at p0 p1 p2
          have HY := Lib.hid hy
          clear hy
          have C2 := Lib.hid ((HR.out.drew hc).set hc y.2.1 y.2.2 HYW.out.2.1)
          go_upto_region 8 with (fail)
          go_region_with (go_at_call 9; refine C2.out.mono ?_; rintro e W3 ⟨rfl, hq, -⟩; have HR3 := Lib.hid hq; clear hq)
          all_goals
            clear p0 p1 p2 C2
            obtain ⟨b3, off3, hab, hB3, p0, p1, p2⟩ := (HK.out.below (HR3.out.bel.mono (Nat.le_refl _))).at hlt
            cases hab
            rw [HY.out] at p0 p1 p2
            have C3 := Lib.hid ((HR3.out.drew hc).swap.set hc y.2.1 y.2.2 HYW.out.2.1)
            go_upto_region 9 with (fail)
            go_region_with (go_at_call 9; refine C3.out.mono ?_; rintro e W4 ⟨rfl, hq, -⟩; have HR4 := Lib.hid hq.swap; clear hq)
            all_goals
              go_wp2_with fail
              go_roundw
              case rel => exact ⟨k + 1, _, by omega, by go_num, HR4.out⟩
              case measure => simp [intOf]; omega
        · obtain rfl : k = z0.length := by omega
          have C1 := Lib.hid (HR.out.list hc)
          have HOK := Lib.hid (HR.out.oka hc)
          clear hk hlt hl2
          go_wp2_with fail
          refine C1.out.mono ?_
          rintro e W3 ⟨⟨al, cl, rfl, ho, hq⟩, -⟩
          have HL3 := Lib.hid (ho.mono HR.out.bel.size)
          have C2 := Lib.hid (hq.due hc a1)
          have hLl : L.length ≤ 1024 := HOK.out.len
          clear ho hq C1 HR
          go_wp2_with fail
          refine C2.out.mono ?_
          rintro e W4 ⟨⟨ax, cx, rfl, ho, hq⟩, hch⟩
          have HL4 := Lib.hid (HL3.out.chg hch (fun g hg => off_no (.inr hg)))
          have HX4 := Lib.hid ho
          have C3 := Lib.hid (hq.due hc a1)
          have E1 := Lib.hid (due_again L a1)
          rw [E1.out.1, E1.out.2] at C3
          clear ho hq hch C2
          go_wp2_with fail
          refine C3.out.mono ?_
          rintro e W5 ⟨⟨ag, cg, rfl, -, hq⟩, hch⟩
          have HL5 := Lib.hid (HL4.out.chg hch (fun g hg => off_no (.inl (.inr hg))))
          have HX5 := Lib.hid (HX4.out.chg hch (fun g hg => off_no (.inr hg)))
          have C4 := Lib.hid (hq.due hc a2)
          have E2 := Lib.hid (due_parts L HLT.out)
          rw [E2.out.2] at C4
          clear hq hch C3
          go_wp2_with fail
          refine C4.out.mono ?_
          rintro e W6 ⟨⟨ay, cy, rfl, ho, hq⟩, hch⟩
          have HL6 := Lib.hid (HL5.out.chg hch (fun g hg => off_no (.inl (.inl (.inr hg)))))
          have HX6 := Lib.hid (HX5.out.chg hch (fun g hg => off_no (.inl (.inr hg))))
          have HY6 := Lib.hid ho
          have C5 := Lib.hid (hq.swap.due hc a2)
          clear ho hq hch C4
          go_wp2_with fail
          refine C5.out.mono ?_
          rintro e W7 ⟨⟨az, cz, rfl, ho, hq⟩, hch⟩
          have HL7 := Lib.hid (HL6.out.chg hch (fun g hg => off_no (.inl (.inl (.inl (.inr hg))))))
          have HX7 := Lib.hid (HX6.out.chg hch (fun g hg => off_no (.inl (.inl (.inr hg)))))
          have HY7 := Lib.hid (HY6.out.chg hch (fun g hg => off_no (.inr hg)))
          have HZ7 := Lib.hid ho
          have HQ7 := Lib.hid hq.swap
          clear ho hq hch C5
          have hb8 : Below W7.heap.size W7 (W7.alloc (.cells #[] 3)) := (Below.refl _ W7).alloc (Nat.le_refl _) _
          obtain ⟨W8, hW8⟩ : ∃ W8, W7.alloc (.cells #[] 3) = W8 := ⟨_, rfl⟩
          have hm8 : OwI W8 W7.heap.size (.slice (some ⟨W7.heap.size, 0, none⟩) 0 0) [] := hW8 ▸ OwI_made W7 W7.heap.size (Nat.le_refl _)
          rw [hW8] at hb8
          have hxl : (dueK L a1).length ≤ 1024 := Nat.le_trans (dueK_len L a1) hLl
          have hyl : (dueK (dueL L a1) a2).length ≤ 1024 := Nat.le_trans (dueK_len _ a2) (Nat.le_trans (dueL_len L a1) hLl)
          have HZL : Hid ((dueK L a2).length ≤ 1024) := Nat.le_trans (dueK_len L a2) hLl
          obtain ⟨r1, W9, hr1, ho9, hg9, -, -⟩ := run_gapps2 (R := RI) W8 37 W7.heap.size _ [] hm8 _ _ (dueK L a1) (HX7.out.below hb8) (by show (0 : Nat) + (dueK L a1).length ≤ 3000; omega) hb8.size
          have ho9' : OwI W9 W7.heap.size r1 (dueK L a1) := ho9
          have hb9 : Below W7.heap.size W7 W9 := hb8.trans ((Below.refl _ W8).grown hg9 hb8.size (fun k hk => (hm8.lt k hk).1))
          obtain ⟨r2, W10, hr2, ho10, hg10, -, -⟩ := run_gapps2 (R := RI) W9 37 W7.heap.size r1 (dueK L a1) ho9' _ _ (dueK (dueL L a1) a2) (HY7.out.below hb9) (by show (dueK L a1).length + (dueK (dueL L a1) a2).length ≤ 3000; omega) hb9.size
          have ho10' : OwI W10 W7.heap.size r2 (dueK L a2) := E2.out.1 ▸ ho10
          have hb10 : Below W7.heap.size W7 W10 := hb9.trans ((Below.refl _ W9).grown hg10 hb9.size (fun k hk => (ho9'.lt k hk).1))
          obtain ⟨a9, c9, hv9⟩ := ho9'.form
          obtain ⟨a10, c10, hv10⟩ := ho10'.form
          subst hv9
          subst hv10
          have HS10 := Lib.hid ho10'
          have HL10 := Lib.hid (HL7.out.below hb10)
          have HZ10 := Lib.hid (HZ7.out.below hb10)
          have HQ10 := Lib.hid (HQ7.out.under hc hb10 (K' := fun g => (((((False ∨ (Value.slice al L.length cl).ownBlock = some g) ∨ (Value.slice ax (dueK L a1).length cx).ownBlock = some g) ∨ (Value.slice ag ([] : List Int).length cg).ownBlock = some g) ∨ (Value.slice ay (dueK (dueL L a1) a2).length cy).ownBlock = some g) ∨ (Value.slice az (dueK L a2).length cz).ownBlock = some g) ∨ (Value.slice a10 (dueK L a2).length c10).ownBlock = some g) (fun g hg => hg.imp (fun h => h) (fun h => ho10'.lt g h)))
          have HR1 := Lib.hid hr1
          have HR2 := Lib.hid hr2
          clear hm8 hb8 hxl hyl ho9 hg9 ho9' hb9 ho10 hg10 ho10' hb10 hr1 hr2 HL7 HX7 HY7 HZ7 HQ7
          go_wp2_with (first | (at_builtin; refine app_go rfl (.tmp 87) (.tmp 88) 37 rfl _ _ _ _ rfl rfl HR1.out ?_) | (at_builtin; refine app_go rfl (.tmp 89) (.tmp 90) 37 rfl _ _ _ _ rfl rfl HR2.out ?_))
          go_loopw [16, 17] (fun n i wr => ∃ k : Nat, k ≤ L.length ∧ i = .int .i64 k ∧ n = .int .i64 ((L.take k).countP (fun y => decide (y.1 ≤ a2))) ∧ W10 = wr) (fun _ i _ => L.length - (intOf i).toNat)
          case atStart => exact ⟨0, Nat.zero_le _, rfl, rfl, rfl⟩
          case round =>
            obtain ⟨k, hk, rfl, rfl, rfl⟩ := hrel
            by_cases hlt : k < L.length
            · obtain ⟨b2, off, rfl, hB, p0, p1⟩ := HL10.out.ms.at hlt
              have hcn := cnt_stepA L a2 k hlt
              have hcl : (L.take k).countP (fun y => decide (y.1 ≤ a2)) ≤ 1024 := Nat.le_trans List.countP_le_length (by rw [List.length_take]; omega)
              obtain ⟨y, hy⟩ : ∃ y, L.getD k zTm = y := ⟨_, rfl⟩
              rw [hy] at p0 p1 hcn
              have HCN := Lib.hid hcn
              obtain ⟨n0, hn0⟩ : ∃ n0, (L.take k).countP (fun y => decide (y.1 ≤ a2)) = n0 := ⟨_, rfl⟩
              rw [hn0] at hcl HCN ⊢
              clear hy hcn hn0
              by_cases hkey : y.1 ≤ a2
              · have q1 : decide (y.1 ≤ a2) = true := decide_eq_true hkey
                have HD := Lib.hid hkey
                clear hkey
                go_wp2_with fail
                go_roundw
                case rel =>
                  refine ⟨k + 1, by omega, by go_num, ?_, by first | rfl | trivial⟩
                  rw [HCN.out, if_pos HD.out]
                  go_num
                case measure => simp [intOf]; omega
              · have q1 : decide (y.1 ≤ a2) = false := decide_eq_false hkey
                have HD := Lib.hid hkey
                clear hkey
                go_wp2_with fail
                go_roundw
                case rel =>
                  refine ⟨k + 1, by omega, by go_num, ?_, by first | rfl | trivial⟩
                  rw [HCN.out, if_neg HD.out]
                  go_num
                case measure => simp [intOf]; omega
            · obtain rfl : k = L.length := by omega
              rw [List.take_length, due_count HOK.out a2]
              have HDL : Hid ((dueL L a2).length ≤ 3000) := Nat.le_trans (dueL_len L a2) (Nat.le_trans hLl (by decide))
              have C6 := Lib.hid (HQ10.out.next hc)
              go_wp2_with fail
              refine C6.out.mono ?_
              rintro e W11 ⟨rfl, hq, hch⟩
              have HS11 := Lib.hid (HS10.out.chg hch (fun g hg => off_no (.inr hg)))
              have HZ11 := Lib.hid (HZ10.out.chg hch (fun g hg => off_no (.inl (.inr hg))))
              have HQ11 := Lib.hid hq
              have C7 := Lib.hid (awake11 hc W11)
              clear hq hch C6
              go_wp2_with fail
              refine C7.out.mono ?_
              rintro e W12 ⟨rfl, hb⟩
              have hm : (dueK L a2).length ≤ 4000 := Nat.le_trans HZL.out (by decide)
              have C8 := Lib.hid (ints_any _ _ _ _ W12 ((HS11.out.below hb).zs hm) ((HZ11.out.below hb).zs hm))
              rw [decide_eq_true (rfl : dueK L a2 = dueK L a2)] at C8
              have HQ12 := Lib.hid (HQ11.out.under hc hb (fun k hk => .inl hk))
              clear hb hm C7
              go_wp2_with fail
              refine C8.out.mono ?_
              rintro e W13 ⟨rfl, hb⟩
              have C9 := Lib.hid ((HQ12.out.under hc hb (fun k hk => .inl hk)).list hc)
              clear hb C8
              have hh := due_head L a2
              obtain ⟨nv, hnv⟩ : ∃ nv, nextV (dueL L a2) = nv := ⟨_, rfl⟩
              obtain ⟨nb, hnb⟩ : ∃ nb, nextB (dueL L a2) = nb := ⟨_, rfl⟩
              rw [hnv, hnb] at hh
              rw [hnv, hnb]
              clear hnv hnb
              cases nb with
              | false =>
                clear hh
                go_wp2_with fail
                refine C9.out.mono ?_
                rintro e W14 ⟨⟨aA, cA, rfl, ho, hq⟩, -⟩
                have HA14 := Lib.hid ho
                have C10 := Lib.hid (hq.swap.list hc)
                clear ho hq C9
                go_wp2_with fail
                refine C10.out.mono ?_
                rintro e W15 ⟨⟨aB, cB, rfl, ho, hq⟩, hch⟩
                have ha15 := HA14.out.chg hch (fun g hg => off_no (.inr hg))
                have C11 := Lib.hid (xsame_any _ _ _ _ W15 ha15.ms ho.ms HDL.out)
                have HB15 := Lib.hid hq.bel
                clear ho hq hch ha15 C10
                go_wp2_with fail
                refine C11.out.mono ?_
                rintro e W16 ⟨⟨q, rfl, hqq⟩, hb⟩
                obtain rfl : q = true := hqq.2 (by first | rfl | trivial)
                have HB16 := Lib.hid (HB15.out.trans (hb.mono HB15.out.size))
                clear hqq hb C11
                go_wp2_with fail
                go_ret
                exact ⟨rfl, HB16.out⟩
              | true =>
                have g1 : decide (a2 < nv) = true := decide_eq_true (hh rfl)
                clear hh
                go_wp2_with fail
                refine C9.out.mono ?_
                rintro e W14 ⟨⟨aA, cA, rfl, ho, hq⟩, -⟩
                have HA14 := Lib.hid ho
                have C10 := Lib.hid (hq.swap.list hc)
                clear ho hq C9
                go_wp2_with fail
                refine C10.out.mono ?_
                rintro e W15 ⟨⟨aB, cB, rfl, ho, hq⟩, hch⟩
                have ha15 := HA14.out.chg hch (fun g hg => off_no (.inr hg))
                have C11 := Lib.hid (xsame_any _ _ _ _ W15 ha15.ms ho.ms HDL.out)
                have HB15 := Lib.hid hq.bel
                clear ho hq hch ha15 C10
                go_wp2_with fail
                refine C11.out.mono ?_
                rintro e W16 ⟨⟨q, rfl, hqq⟩, hb⟩
                obtain rfl : q = true := hqq.2 (by first | rfl | trivial)
                have HB16 := Lib.hid (HB15.out.trans (hb.mono HB15.out.size))
                clear hqq hb C11
                go_wp2_with fail
                go_ret
                exact ⟨rfl, HB16.out⟩

set_option maxRecDepth 100000 in
theorem lifted (os : _root_.Go.Os) (started : os.Started) (H : Type) (enc : TypeId × Value → H) :
    ReturnsInHanded {} Try.checked os 4 .any (Rows.wheelPartsSpec.pre6 enc Try.prog Try.f4 Rows.wheelPartsRow.domain false) (Rows.wheelPartsSpec.post enc Try.prog Try.f4 false true false false) := by
  refine returnsInHanded_of_change (C := Try.checked) own started (by kernel_rfl) Try.func4
    (ChangeSpec.witness6 (enc := enc) (C := Try.checked) false ⟨#[], #[.slice none 0 0, .int .i64 0, .int .i64 0], []⟩ 16 (by kernel_rfl) (by kernel_rfl) (by kernel_rfl) (by kernel_rfl)) ?_
  intro W base args ds gs before hval0 hW hcnd _
  have hval : ∀ (j : Nat) t v, Try.f4.params[j]? = some t → args[j]? = some v → Value.okWide Try.prog W .any base t v := hval0
  have hW' := hW
  obtain ⟨p, q, hA0, hV, rfl, hfz, hnd⟩ := hW
  have hA : DataW.TrodAll enc Try.prog W 0 (fun _ => true) true Try.f4.params.toList args.toList ds p := hA0
  rw [Try.params4] at hA hval
  obtain ⟨v0, vs0, e0, ds0, p0, q0, hargs, rfl, rfl, h0, x0⟩ := trodAll_cons hA
  obtain ⟨v1, vs1, e1, ds1, p1, q1, rfl, rfl, rfl, h1, x1⟩ := trodAll_cons x0
  obtain ⟨v2, vs2, e2, ds2, p2, q2, rfl, rfl, rfl, h2, x2⟩ := trodAll_cons x1
  obtain ⟨rfl, rfl, rfl⟩ := trodAll_nil x2
  obtain rfl : args = #[v0, v1, v2] := by cases args; simp_all
  obtain ⟨rfl, rfl⟩ := trodVars_none hV
  have k0 := h0
  have lt0 : ∀ x ∈ p0, x.block < W.heap.size := by obtain ⟨m, hm⟩ := k0; exact DataW.trod_lt m _ _ _ hm
  have k1 := h1
  have lt1 : ∀ x ∈ p1, x.block < W.heap.size := by obtain ⟨m, hm⟩ := k1; exact DataW.trod_lt m _ _ _ hm
  obtain ⟨a1, rfl, _, _, w1⟩ := open_int Try.underlying3 (hval 1 3 v1 rfl rfl) h1
  have k2 := h2
  have lt2 : ∀ x ∈ p2, x.block < W.heap.size := by obtain ⟨m, hm⟩ := k2; exact DataW.trod_lt m _ _ _ hm
  obtain ⟨a2, rfl, _, _, w2⟩ := open_int Try.underlying3 (hval 2 3 v2 rfl rfl) h2
  obtain ⟨a0, len0, cap0, rfl⟩ := okWide_slice underOPS (hval 0 22 v0 rfl rfl)
  obtain ⟨z0, hz0, w0, q0⟩ := sc_form h0
  subst hz0
  clear hA0 hval0
  refine (walk wc a0 cap0 z0 a1 (i64_wf w1) a2 (i64_wf w2) W w0 q0).mono fun e W' ⟨he, bel⟩ => ?_
  subst he
  exact ⟨_, rfl, _, _, _, [], _, [], hW', trodAll_mk1 (shut_bool Try.underlying4 _), (trodAll_cons_mk (Below.trod laidOut (by kernel_rfl) (of_decide_eq_true (by kernel_rfl)) k0 bel lt0) (trodAll_cons_mk (Below.trod laidOut (by kernel_rfl) (of_decide_eq_true (by kernel_rfl)) k1 bel lt1) (trodAll_cons_mk (Below.trod laidOut (by kernel_rfl) (of_decide_eq_true (by kernel_rfl)) k2 bel lt2) trodAll_mk0))), rfl, bel.frame _, fun h => by cases h⟩

theorem over : Rows.wheelPartsRow.holds Try.pinned (OpenSpec.ofChange Rows.wheelPartsSpec) :=
  OpenClaim.holds_of_wide 4 Try.f4 rfl rfl rfl rfl rfl rfl rfl ⟨rfl, rfl, rfl, rfl, rfl⟩ rfl rfl rfl rfl rfl (by kernel_rfl) Try.func4 (by kernel_rfl)
    (of_decide_eq_true (by kernel_rfl)) (by unfold Func.isWrapper; first | (rw [if_pos (by decide +kernel)]; kernel_rfl) | (rw [if_neg (by decide +kernel)]; exact ⟨rfl, rfl⟩))
    (fun os started H enc _ => lifted os started H enc)

theorem proved : Rows.WheelPartsSaid := over
#print axioms proved
end Go.Proofs.Ytmgipedpggpkoaa.wheelParts
