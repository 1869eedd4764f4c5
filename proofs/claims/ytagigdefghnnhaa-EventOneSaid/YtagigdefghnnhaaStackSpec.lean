/- What the laws of layer 8 (and later ones) need of a stack's calls, whatever its memory is: SA says that block k holds a stack s, that writes the blocks F alone. -/
import Derived.Test.YtagigdefghnnhaaChecked
import Derived.Test.YtagigdefghnnhaaStack
import Derived.Test.YtagigdefghnnhaaChg
import Derived.Test.YtagigdefghnnhaaCame
import Derived.WalkKit
namespace Go.Proofs.Ytagigdefghnnhaa
open Go.RowKit
set_option linter.unusedVariables false
abbrev StPred := World → Nat → (Nat → Prop) → SS → Prop
structure StSpec (SA : StPred) : Prop where
  ok : ∀ {w k F s}, SA w k F s → s.ok
  lt : ∀ {w k F s}, SA w k F s → ∀ i, F i → i < w.heap.size
  aside : ∀ {w w' k F F' s}, SA w k F s → Chg F' w w' → (∀ i, F i → ¬ F' i) → SA w' k F s
  new : ∀ (depth : Int) (w : World), InI depth →
    Calls Try.prog 24 #[.int .i64 depth] w fun e w' => ∃ k F, e = .returned (.pointer (some ⟨k, 0, none⟩)) ∧ (∀ i, F i → w.heap.size ≤ i) ∧ SA w' k F (SS.new depth) ∧ Below w.heap.size w w'
  enter : ∀ {w k F s} (n : Int), SA w k F s → InI n →
    Calls Try.prog 51 #[.pointer (some ⟨k, 0, none⟩), .int .i64 n] w fun e w' => e = .returned (.int .i64 (s.enterE n)) ∧ SA w' k F (s.enter n) ∧ Chg F w w'
  take : ∀ {w k F s}, SA w k F s →
    Calls Try.prog 32 #[.pointer (some ⟨k, 0, none⟩)] w fun e w' => e = .returned (.int .i64 s.takeE) ∧ SA w' k F s.take ∧ Chg F w w'
  leave : ∀ {w k F s}, SA w k F s →
    Calls Try.prog 40 #[.pointer (some ⟨k, 0, none⟩)] w fun e w' => e = .returned (.bool s.leaveB) ∧ SA w' k F s.leave ∧ Chg F w w'
  depth : ∀ {w k F s}, SA w k F s →
    Calls Try.prog 42 #[.pointer (some ⟨k, 0, none⟩)] w fun e w' => e = .returned (.int .i64 s.depth) ∧ ∃ n, w' = w.drewN n
  left : ∀ {w k F s}, SA w k F s →
    Calls Try.prog 48 #[.pointer (some ⟨k, 0, none⟩)] w fun e w' => e = .returned (.int .i64 s.last) ∧ ∃ n, w' = w.drewN n
  copy : ∀ {w k F s}, SA w k F s →
    Calls Try.prog 26 #[.pointer (some ⟨k, 0, none⟩)] w fun e w' => ∃ k' F', e = .returned (.pointer (some ⟨k', 0, none⟩)) ∧ (∀ i, F' i → w.heap.size ≤ i) ∧ SA w' k' F' s ∧ Below w.heap.size w w'
theorem draws_below (w : World) (n : Nat) : Below w.heap.size w (w.drewN n) := ⟨rfl, rfl, rfl, Nat.le_refl _, fun _ _ => rfl⟩
section
variable {SA : StPred} {a w : World} {k : Nat} {F : Nat → Prop} {s : SS}
theorem StSpec.below (H : StSpec SA) {w' : World} (h : SA w k F s) (hb : Below w.heap.size w w') : SA w' k F s :=
  H.aside (F' := fun _ => False) h ⟨hb.os, hb.tape, hb.output, hb.size, fun i hi _ => hb.block i hi⟩ (fun _ _ h => h)
/-- A stack as a call sees it: it writes what the call made alone, and nothing that was there has turned. -/
structure StOn (SA : StPred) (a w : World) (k : Nat) (F : Nat → Prop) (s : SS) : Prop where
  at_ : SA w k F s
  own : ∀ i, F i → a.heap.size ≤ i
  bel : Below a.heap.size a w
theorem StOn.step (H : StSpec SA) {w' : World} (h : StOn SA a w k F s) (hb : Below w.heap.size w w') : StOn SA a w' k F s :=
  ⟨H.below h.at_ hb, h.own, h.bel.trans (hb.mono h.bel.size)⟩
theorem StSpec.new_on (H : StSpec SA) (depth : Int) (hd : InI depth) (hB : Below a.heap.size a w) :
    Calls Try.prog 24 #[.int .i64 depth] w fun e w' => ∃ k F, e = .returned (.pointer (some ⟨k, 0, none⟩)) ∧ StOn SA a w' k F (SS.new depth) ∧ Below w.heap.size w w' ∧ ∀ i, F i → w.heap.size ≤ i := by
  refine (H.new depth w hd).mono ?_
  rintro e w' ⟨k, F, h1, h2, h3, h4⟩
  exact ⟨k, F, h1, ⟨h3, fun i hi => Nat.le_trans hB.size (h2 i hi), hB.trans (h4.mono hB.size)⟩, h4, h2⟩
theorem StSpec.enter_on (H : StSpec SA) (n : Int) (h : StOn SA a w k F s) (hn : InI n) {er : Int} {s' : SS} (he : s.enterE n = er) (hs : s.enter n = s') :
    Calls Try.prog 51 #[.pointer (some ⟨k, 0, none⟩), .int .i64 n] w fun e w' => e = .returned (.int .i64 er) ∧ StOn SA a w' k F s' ∧ Chg F w w' := by
  subst he hs
  refine (H.enter n h.at_ hn).mono ?_
  rintro e w' ⟨h1, h2, h3⟩
  exact ⟨h1, ⟨h2, h.own, h3.to_below h.bel h.own⟩, h3⟩
theorem StSpec.take_on (H : StSpec SA) (h : StOn SA a w k F s) {er : Int} {s' : SS} (he : s.takeE = er) (hs : s.take = s') :
    Calls Try.prog 32 #[.pointer (some ⟨k, 0, none⟩)] w fun e w' => e = .returned (.int .i64 er) ∧ StOn SA a w' k F s' ∧ Chg F w w' := by
  subst he hs
  refine (H.take h.at_).mono ?_
  rintro e w' ⟨h1, h2, h3⟩
  exact ⟨h1, ⟨h2, h.own, h3.to_below h.bel h.own⟩, h3⟩
theorem StSpec.leave_on (H : StSpec SA) (h : StOn SA a w k F s) {b : Bool} {s' : SS} (he : s.leaveB = b) (hs : s.leave = s') :
    Calls Try.prog 40 #[.pointer (some ⟨k, 0, none⟩)] w fun e w' => e = .returned (.bool b) ∧ StOn SA a w' k F s' ∧ Chg F w w' := by
  subst he hs
  refine (H.leave h.at_).mono ?_
  rintro e w' ⟨h1, h2, h3⟩
  exact ⟨h1, ⟨h2, h.own, h3.to_below h.bel h.own⟩, h3⟩
theorem StSpec.depth_on (H : StSpec SA) (h : StOn SA a w k F s) {d : Int} (he : s.depth = d) :
    Calls Try.prog 42 #[.pointer (some ⟨k, 0, none⟩)] w fun e w' => e = .returned (.int .i64 d) ∧ StOn SA a w' k F s ∧ Below w.heap.size w w' := by
  subst he
  refine (H.depth h.at_).mono ?_
  rintro e w' ⟨h1, n, rfl⟩
  exact ⟨h1, h.step H (draws_below w n), draws_below w n⟩
theorem StSpec.left_on (H : StSpec SA) (h : StOn SA a w k F s) {d : Int} (he : s.last = d) :
    Calls Try.prog 48 #[.pointer (some ⟨k, 0, none⟩)] w fun e w' => e = .returned (.int .i64 d) ∧ StOn SA a w' k F s ∧ Below w.heap.size w w' := by
  subst he
  refine (H.left h.at_).mono ?_
  rintro e w' ⟨h1, n, rfl⟩
  exact ⟨h1, h.step H (draws_below w n), draws_below w n⟩
theorem StSpec.copy_on (H : StSpec SA) (h : StOn SA a w k F s) :
    Calls Try.prog 26 #[.pointer (some ⟨k, 0, none⟩)] w fun e w' => ∃ k' F', e = .returned (.pointer (some ⟨k', 0, none⟩)) ∧ StOn SA a w' k F s ∧ StOn SA a w' k' F' s ∧ (∀ i, F i → ¬ F' i) ∧ (∀ i, F' i → w.heap.size ≤ i) ∧ Below w.heap.size w w' := by
  refine (H.copy h.at_).mono ?_
  rintro e w' ⟨k', F', h1, h2, h3, h4⟩
  have hs := h.step H h4
  exact ⟨k', F', h1, hs, ⟨h3, fun i hi => Nat.le_trans h.bel.size (h2 i hi), hs.bel⟩, fun i hi hi' => by have := H.lt h.at_ i hi; have := h2 i hi'; omega, h2, h4⟩
end
end Go.Proofs.Ytagigdefghnnhaa
