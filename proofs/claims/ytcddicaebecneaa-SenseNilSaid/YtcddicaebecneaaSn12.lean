/- What the program's sensor is asked to answer, over whatever it keeps. -/
import Derived.Test.YtcddicaebecneaaSn11
import Derived.Test.YtcddicaebecneaaHea
namespace Go.Proofs.Ytcddicaebecneaa
set_option maxRecDepth 100000
open Go.RowKit

/-- What the program's sensor answers: PS w F b s: at block b lies a sensor that is s, in the blocks of F. -/
structure Sc (PS : World → (Nat → Prop) → Nat → Sn → Prop) : Prop where
  lt : ∀ {w : World} {F : Nat → Prop} {b : Nat} {s : Sn}, PS w F b s → ∀ k, F k → k < w.heap.size
  ok : ∀ {w : World} {F : Nat → Prop} {b : Nat} {s : Sn}, PS w F b s → SnOk s
  keep : ∀ {w w' : World} {F G : Nat → Prop} {b : Nat} {s : Sn}, PS w F b s → Chg G w w' → (∀ k, F k → ¬ G k) → PS w' F b s
  new : ∀ (id ep hold : Int) (w : World), Calls Try.prog 10 #[.int .i64 id, .int .i64 ep, .int .i64 hold] w fun e w' => Below w.heap.size w w' ∧ ((¬ newOk id ep hold ∧ e = .returned (.tuple #[.pointer none, .int .i64 1])) ∨ (newOk id ep hold ∧ ∃ b F, e = .returned (.tuple #[.pointer (some ⟨b, 0, none⟩), .int .i64 0]) ∧ PS w' F b (sn0 id ep hold) ∧ ∀ k, F k → w.heap.size ≤ k))
  hear : ∀ {w : World} {F : Nat → Prop} {b : Nat} {s : Sn} (now fr M : Int) (v : Value) (ys : List (Int × Int)), PS w F b s → El w v ys → ys.length ≤ 1000 → Calls Try.prog 15 #[.pointer (some ⟨b, 0, none⟩), .int .i64 now, .int .i64 fr, .agg #[.int .i64 M, v]] w fun e w' => ∃ r, e = .returned (.tuple #[r, .int .i64 (hearR s now fr M ys).2.1]) ∧ Evs w' r (hearR s now fr M ys).1 ∧ Chg F w w' ∧ ∃ F', PS w' F' b ((hearR s now fr M ys).2.2) ∧ (∀ k, F' k → F k ∨ w.heap.size ≤ k) ∧ ∀ g, (r).ownBlock = some g → w.heap.size ≤ g ∧ ¬ F' g
  tick : ∀ {w : World} {F : Nat → Prop} {b : Nat} {s : Sn} (now : Int), PS w F b s → Calls Try.prog 13 #[.pointer (some ⟨b, 0, none⟩), .int .i64 now] w fun e w' => ∃ r, e = .returned (.tuple #[r, .int .i64 (tickE s now)]) ∧ Evs w' r (tickO s now) ∧ Chg F w w' ∧ ∃ F', PS w' F' b (tickS s now) ∧ (∀ k, F' k → F k ∨ w.heap.size ≤ k) ∧ ∀ g, (r).ownBlock = some g → w.heap.size ≤ g ∧ ¬ F' g
  beacon : ∀ {w : World} {F : Nat → Prop} {b : Nat} {s : Sn}, PS w F b s → Calls Try.prog 19 #[.pointer (some ⟨b, 0, none⟩)] w fun e w' => ∃ v, e = .returned (.agg #[.int .i64 s.ep, v]) ∧ El w' v (beaL s) ∧ Chg F w w' ∧ ∃ F', PS w' F' b (s) ∧ (∀ k, F' k → F k ∨ w.heap.size ≤ k) ∧ ∀ g, (v).ownBlock = some g → w.heap.size ≤ g ∧ ¬ F' g
  links : ∀ {w : World} {F : Nat → Prop} {b : Nat} {s : Sn}, PS w F b s → Calls Try.prog 22 #[.pointer (some ⟨b, 0, none⟩)] w fun e w' => ∃ v, e = .returned v ∧ Es w' v (lnkL s) ∧ Chg F w w' ∧ ∃ F', PS w' F' b (s) ∧ (∀ k, F' k → F k ∨ w.heap.size ≤ k) ∧ ∀ g, (v).ownBlock = some g → w.heap.size ≤ g ∧ ¬ F' g
  hearN : ∀ (now fr M : Int) (v : Value) (ys : List (Int × Int)) (w : World), El w v ys → ys.length ≤ 1000 → Calls Try.prog 15 #[.pointer none, .int .i64 now, .int .i64 fr, .agg #[.int .i64 M, v]] w fun e w' => ∃ r, e = .returned (.tuple #[r, .int .i64 3]) ∧ Evs w' r [] ∧ Below w.heap.size w w'
  tickN : ∀ (now : Int) (w : World), Calls Try.prog 13 #[.pointer none, .int .i64 now] w fun e w' => ∃ r, e = .returned (.tuple #[r, .int .i64 3]) ∧ Evs w' r [] ∧ Below w.heap.size w w'
  beaconN : ∀ (w : World), Calls Try.prog 19 #[.pointer none] w fun e w' => ∃ v, e = .returned (.agg #[.int .i64 0, v]) ∧ El w' v [] ∧ Below w.heap.size w w'
  linksN : ∀ (w : World), Calls Try.prog 22 #[.pointer none] w fun e w' => ∃ v, e = .returned v ∧ Es w' v [] ∧ Below w.heap.size w w'
end Go.Proofs.Ytcddicaebecneaa
