/- The document's fixed answers of layer 15 hold: 'awake' returns true. Over ValPush, the landed code's contracts. -/
import Derived.Test.YtoklcnfpeipalaaGreatValLoop
namespace Go.Proofs.YtoklcnfpeipalaaGreat
open Go.RowKit Go.PlainAid
theorem awake15_is (w : World) : Calls Tryz.prog 6 #[] w fun e w' => e = .returned (.bool true) ∧ Below w.heap.size w w' := awake15_any valSpec w
end Go.Proofs.YtoklcnfpeipalaaGreat
