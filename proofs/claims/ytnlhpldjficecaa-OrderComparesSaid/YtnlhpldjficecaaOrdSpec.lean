/- What the laws of layer 16 (and later ones) need of a sorter's calls, whatever its memory is: OA says that block k holds a sorter that is m, that writes the blocks F alone. -/
import Derived.Test.YtnlhpldjficecaaOrdMach
import Derived.Test.YtnlhpldjficecaaOrdCmp
import Derived.Test.YtnlhpldjficecaaChg
import Derived.Test.YtnlhpldjficecaaCame
namespace Go.Proofs.Ytnlhpldjficecaa
open Go.RowKit Go.PlainAid
set_option linter.unusedVariables false
abbrev OrdPred := World → Nat → (Nat → Prop) → OM → Prop
structure OrdSpec (fN fP fE : Nat) (OA : OrdPred) : Prop where
  lt : ∀ {w k F s}, OA w k F s → ∀ i, F i → i < w.heap.size
  aside : ∀ {w w' k F F' s}, OA w k F s → Chg F' w w' → (∀ i, F i → ¬ F' i) → OA w' k F s
  new : ∀ (w : World) (most : Int), InI most → Calls Try.prog fN #[.int .i64 most] w fun e w' => ∃ k F, e = .returned (.pointer (some ⟨k, 0, none⟩)) ∧ (∀ i, F i → w.heap.size ≤ i) ∧ OA w' k F (OM.new most) ∧ Below w.heap.size w w'
  push : ∀ {w k F s} (b : Int), OA w k F s → s.Ok → s.n ≤ 1000000 → 0 ≤ b ∧ b ≤ 255 →
    Calls Try.prog fP #[.pointer (some ⟨k, 0, none⟩), .int .u8 b] w fun r w' => ∃ F', r = .returned (.int .i64 (s.push b).e) ∧ (∀ i, F' i → F i ∨ w.heap.size ≤ i) ∧ OA w' k F' (s.push b) ∧ Chg F w w'
  fin : ∀ {w k F s}, OA w k F s → s.Ok → s.n ≤ 1000000 →
    Calls Try.prog fE #[.pointer (some ⟨k, 0, none⟩)] w fun r w' => ∃ F', r = .returned (.int .i64 s.fin.e) ∧ (∀ i, F' i → F i ∨ w.heap.size ≤ i) ∧ OA w' k F' s.fin ∧ Chg F w w'
abbrev OrdCode (OA : OrdPred) : Prop := OrdSpec 11 13 15 OA
abbrev OrdResets (OA : OrdPred) : Prop := ∀ {w k F s}, OA w k F s → s.Ok →
    Calls Try.prog 17 #[.pointer (some ⟨k, 0, none⟩)] w fun r w' => ∃ F', r = .returned (.tuple #[]) ∧ (∀ i, F' i → F i ∨ w.heap.size ≤ i) ∧ OA w' k F' s.reset ∧ Chg F w w'
end Go.Proofs.Ytnlhpldjficecaa
