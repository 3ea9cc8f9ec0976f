/- What a wheel over a map that is made once answers. -/
import Derived.Test.YtmgipedpggpkoaaMdu
import Derived.Test.YtmgipedpggpkoaaMsr
namespace Go.Proofs.Ytmgipedpggpkoaa
set_option maxRecDepth 100000
open Go.RowKit Go.Maps

theorem pset_bad (b : Nat) (key at_ : Int) (w : World) (hb : badT key at_) : Calls Try.prog 9 #[.pointer (some ⟨b, 0, none⟩), .int .i64 key, .int .i64 at_] w fun e w' => e = .returned (.int .i64 1) ∧ w = w' := by
  by_cases h1 : at_ < 0
  · have d1 : decide (at_ < 0) = true := decide_eq_true h1
    clear hb
    go_enter Try.func9, Try.ntmps9
    go_wp2_with fail
    go_ret
    exact ⟨rfl, rfl⟩
  · by_cases h2 : 1000000000000 < at_
    · have d1 : decide (at_ < 0) = false := decide_eq_false h1
      have d2 : decide (1000000000000 < at_) = true := decide_eq_true h2
      clear hb
      go_enter Try.func9, Try.ntmps9
      go_wp2_with fail
      go_ret
      exact ⟨rfl, rfl⟩
    · have h3 : key < 0 := by rcases hb with h | h | h <;> omega
      have d1 : decide (at_ < 0) = false := decide_eq_false h1
      have d2 : decide (1000000000000 < at_) = false := decide_eq_false h2
      have d3 : decide (key < 0) = true := decide_eq_true h3
      clear hb
      go_enter Try.func9, Try.ntmps9
      go_wp2_with fail
      go_ret
      exact ⟨rfl, rfl⟩
theorem psetN (key at_ : Int) (w : World) : Calls Try.prog 9 #[.pointer none, .int .i64 key, .int .i64 at_] w fun e w' => e = .returned (.int .i64 3) ∧ Below w.heap.size w w' := by
  go_enter Try.func9, Try.ntmps9
  go_wp2_with fail
  go_ret
  exact ⟨rfl, Below.refl _ _⟩
theorem pstopN (key : Int) (w : World) : Calls Try.prog 11 #[.pointer none, .int .i64 key] w fun e w' => e = .returned (.int .i64 3) ∧ Below w.heap.size w w' := by
  go_enter Try.func11, Try.ntmps11
  go_wp2_with fail
  go_ret
  exact ⟨rfl, Below.refl _ _⟩
theorem plistN (w : World) : Calls Try.prog 19 #[.pointer none] w fun e w' => e = .returned (.slice none 0 0) ∧ w = w' := by
  go_enter Try.func19, Try.ntmps19
  go_wp2_with fail
  go_ret
  exact ⟨rfl, rfl⟩
theorem pnextN (w : World) : Calls Try.prog 16 #[.pointer none] w fun e w' => (∃ n, e = .returned (.tuple #[.int .i64 n, .bool false])) ∧ Below w.heap.size w w' := by
  go_enter Try.func16, Try.ntmps16
  go_wp2_with fail
  exact bodyPost_ret (v := .tuple #[.int .i64 0, .bool false]) (by simp [results, Try.results16, go_sem]) rfl ⟨⟨0, rfl⟩, Below.refl _ _⟩
theorem pdueN (now : Int) (w : World) : Calls Try.prog 14 #[.pointer none, .int .i64 now] w fun e w' => (∃ a c, e = .returned (.slice a 0 c)) ∧ Below w.heap.size w w' := by
  go_enter Try.func14, Try.ntmps14
  go_wp2_with fail
  go_ret
  exact ⟨⟨_, _, rfl⟩, Below.refl _ _⟩
/-- The program's wheel, with what is known of its keys. -/
def PWI (w : World) (F : Nat → Prop) (b : Nat) (l : List Tm) : Prop := PW w F b l ∧ ∀ y ∈ l, I64 y.2
theorem setL_keys {l : List Tm} {key at_ : Int} (h : ∀ y ∈ l, I64 y.2) (hk : I64 key) : ∀ y ∈ setL l key at_, I64 y.2 := by
  unfold setL
  by_cases hb : badT key at_
  · rw [if_pos hb]; exact h
  · rw [if_neg hb]
    by_cases hf : issetL l key = false ∧ 1024 ≤ l.length
    · rw [if_pos hf]; exact h
    · rw [if_neg hf]
      intro y hy
      rcases List.mem_cons.1 ((insL_perm _ _ _).mem_iff.1 hy) with rfl | hy
      · exact hk
      · exact h y (List.mem_filter.1 hy).1
theorem wc_of (hs : SortsTm) : Wc PWI where
  lt := fun h => h.1.lt
  ok := fun h => h.1.1
  keep := fun h hg hn => ⟨h.1.chg hg hn, h.2⟩
  new := fun w => (pnew_any w).mono (by
    rintro e w' ⟨b, F, rfl, h1, h2, h3⟩
    exact ⟨b, F, rfl, ⟨h1, (fun _ hy => nomatch hy)⟩, h2, h3⟩)
  set := by
    rintro w F b l key at_ hk ⟨h, hI⟩
    by_cases hb : badT key at_
    · refine (pset_bad b key at_ w hb).mono ?_
      rintro e w' ⟨rfl, rfl⟩
      refine ⟨by unfold setE; rw [if_pos hb], Chg.refl _ _, F, ⟨?_, setL_keys hI hk⟩, fun k hk => .inl hk⟩
      unfold setL
      rw [if_pos hb]
      exact h
    · refine (pset_go key at_ hk hb (tok_set h.1 key at_) h).mono ?_
      rintro e w' ⟨rfl, hg, F', h1, h2⟩
      exact ⟨rfl, hg, F', ⟨h1, setL_keys hI hk⟩, h2⟩
  stop := by
    rintro w F b l key hk ⟨h, hI⟩
    refine (pstop_any key hk h).mono ?_
    rintro e w' ⟨rfl, hg, F', h1, h2⟩
    exact ⟨rfl, hg, F', ⟨h1, fun y hy => hI y (List.mem_filter.1 hy).1⟩, h2⟩
  next := by
    rintro w F b l ⟨h, hI⟩
    refine (pnext_any h).mono ?_
    rintro e w' ⟨rfl, hg, F', h1, h2⟩
    exact ⟨rfl, hg, F', ⟨h1, hI⟩, h2⟩
  due := by
    rintro w F b l now ⟨h, hI⟩
    refine (pdue_any hs now hI h).mono ?_
    rintro e w' ⟨h0, hg, F', h1, h2⟩
    exact ⟨h0, hg, F', ⟨h1, fun y hy => hI y ((List.dropWhile_sublist _).subset hy)⟩, h2⟩
  list := by
    rintro w F b l ⟨h, hI⟩
    refine (plist_any hs h).mono ?_
    rintro e w' ⟨h0, hg, F', h1, h2⟩
    exact ⟨h0, hg, F', ⟨h1, hI⟩, h2⟩
  setN := fun key at_ w => psetN key at_ w
  stopN := fun key w => pstopN key w
  nextN := fun w => pnextN w
  dueN := fun now w => pdueN now w
  listN := fun w => (plistN w).mono (by
    rintro e w' ⟨rfl, rfl⟩
    exact ⟨⟨none, 0, rfl⟩, Below.refl _ _⟩)
end Go.Proofs.Ytmgipedpggpkoaa
