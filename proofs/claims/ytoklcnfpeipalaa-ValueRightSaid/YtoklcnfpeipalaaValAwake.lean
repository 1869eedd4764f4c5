/- The document's fixed answers of layer 15 hold: 'awake' returns true. Over ValPush, the landed code's contracts. -/
import Derived.Test.YtoklcnfpeipalaaValLoop
namespace Go.Proofs.Ytoklcnfpeipalaa
open Go.RowKit Go.PlainAid
theorem awake15_is (w : World) : Calls Try.prog 5 #[] w fun e w' => e = .returned (.bool true) ∧ Below w.heap.size w w' := awake15_any valSpec w
end Go.Proofs.Ytoklcnfpeipalaa
