/- What layer 15's reference gives: with which byte a content of any tag is wrong, and the first event of some that is wrong. Of every tag, every length that can be and every content of at most 900000 bytes; of every 400000 events that can be. -/
import Derived.Test.YtiiimhamfibdbaaV1
import Derived.Test.YtiiimhamfibdbaaN1
import Derived.Test.YtiiimhamfibdbaaO1
import Derived.Test.YtiiimhamfibdbaaBs
import Derived.Test.YtiiimhamfibdbaaT2
import Derived.Test.YtiiimhamfibdbaaE4
import Derived.Test.YtiiimhamfibdbaaE1
import Derived.Test.YtiiimhamfibdbaaB0
import Derived.Deep.LoopGhost
import Derived.Deep.Cut
import Derived.Deep.QuietTactic
import Derived.BigQuiet
namespace Go.Proofs.Ytiiimhamfibdbaa
open Go.RowKit Go.PlainAid
set_option linter.unusedVariables false
structure EvB (e : Ev) : Prop where
 c : 0 ≤ e.c ∧ e.c ≤ 3
 t : 0 ≤ e.t ∧ e.t ≤ 268435455
 n : 0 ≤ e.n ∧ e.n ≤ 2305843009213693951
 b : 0 ≤ e.b ∧ e.b ≤ 255
end Go.Proofs.Ytiiimhamfibdbaa
/- What the laws of layer 15 (and later ones) need of a checker's calls, whatever its memory is: VA says that block k holds a checker that knows s, that writes the blocks F alone; and the document's fixed answers. -/
namespace Go.Proofs.Ytiiimhamfibdbaa
open Go.RowKit Go.PlainAid
set_option linter.unusedVariables false
abbrev ValPred := World → Nat → (Nat → Prop) → VS → Prop
structure ValSpec (VA : ValPred) : Prop where
 lt : ∀ {w k F s}, VA w k F s → ∀ i, F i → i < w.heap.size
 aside : ∀ {w w' k F F' s}, VA w k F s → Chg F' w w' → (∀ i, F i → ¬ F' i) → VA w' k F s
 new : ∀ (w : World), Calls Try.prog 9 #[] w fun e w' => ∃ k F, e = .returned (.pointer (some ⟨k, 0, none⟩)) ∧ (∀ i, F i → w.heap.size ≤ i) ∧ VA w' k F VS.new ∧ Below w.heap.size w w'
 push : ∀ {w k F s} (e : Ev), VA w k F s → s.Ok → s.fits e →
  Calls Try.prog 17 #[.pointer (some ⟨k, 0, none⟩), evV e] w fun r w' => ∃ F', r = .returned (.int .i64 (if (s.next e).bad = true then 7 else 0)) ∧ (∀ i, F' i → F i ∨ w.heap.size ≤ i) ∧ VA w' k F' (s.next e) ∧ Chg F w w'
end Go.Proofs.Ytiiimhamfibdbaa
