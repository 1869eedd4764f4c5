/- A tap and the reference's box side by side. -/
import Derived.Test.YtfkfkoebplpooaaTapLoop
import Derived.Test.YtfkfkoebplpooaaRefTap
namespace Go.Proofs.Ytfkfkoebplpooaa
open Go.RowKit Go.PlainAid
set_option linter.unusedVariables false
structure TRef (TA : TapPred) (a w : World) (k : Nat) (F : Nat → Prop) (s : TpS) (g : Nat) : Prop where
  x : TOn TA a w k F s
  r : RT w g s
  low : a.heap.size ≤ g
  ap : ¬ F g
section
variable {TA : TapPred} (H : TapSpec TA) {a w w1 w2 : World} {k g : Nat} {F F' : Nat → Prop} {s s' : TpS}
theorem TRef.mid (h : TRef TA a w k F s g) (hc : Chg F w w1) : RT w1 g s := Row.chg h.r hc h.ap
include H
theorem TRef.both (h : TRef TA a w k F s g) (h1 : TOn TA a w1 k F' s') (hn : ∀ i, F' i → F i ∨ w.heap.size ≤ i) (hc : Chg F w w1) (h2 : RT w2 g s') (hc2 : Chg (fun i => i = g) w1 w2) : TRef TA a w2 k F' s' g := by
  have hap : ¬ F' g := fun f => by
    rcases hn g f with q | q
    · exact h.ap q
    · have : g < w.heap.size := Row.lt h.r
      omega
  exact ⟨h1.kept H hc2 (fun i hi e => hap (e ▸ hi)) (hc2.to_below h1.bel (fun i e => by rw [e]; exact h.low)), h2, h.low, hap⟩
theorem TRef.below (h : TRef TA a w k F s g) (hb : Below w.heap.size w w1) : TRef TA a w1 k F s g := ⟨h.x.below H hb, Row.below h.r hb (Row.lt h.r), h.low, h.ap⟩
theorem TRef.newR (h : TOn TA a w k F TpS.new) : TRef TA a (w.alloc (.cells (tapC TpS.new).toArray 27)) k F TpS.new w.heap.size :=
  ⟨h.below H ((Below.refl _ _).alloc (Nat.le_refl _) _), Row.new w _ _, h.bel.size, fun f => by have := H.lt h.at_ _ f; omega⟩
end
end Go.Proofs.Ytfkfkoebplpooaa
