/- The library's tables that the rows list: that they read so is what the rows ask of a start; the world of a start in which they read so (for the witness), and what the walks take from it. -/
import Derived.Test.YthjncfpgmfbehaaDoorCards
import Derived.Test.YthjncfpgmfbehaaDoorTie
import Derived.Test.YthjncfpgmfbehaaDoorWhenTab
import Derived.WalkKit
import Derived.ProofKit
import Derived.OpenShut
import Derived.Deep.DeepHandedRow
import Derived.Lib.LaidTab
import Derived.Stop.LaidErr
namespace Go.Proofs.YthjncfpgmfbehaaDoor
open Go.ChangeShapes Go.WideShapes Go.ChangeAt Go.RowKit
theorem gPow : Tryd.prog.globalNamed "internal/strconv.uint64pow10" = some 0 := by kernel_rfl
theorem gPowType : (Tryd.prog.globals[0]?).map (·.type) = some 58 := by kernel_rfl
theorem cells20 : Tryd.prog.cellsOf 58 = 20 := by kernel_rfl
theorem cells64 : Tryd.prog.cellsOf 52 = 1 := by kernel_rfl
/-- What a start's condition gives the walks. -/
theorem tabOf {W : World} (h : laidMetH Tryd.prog [("math/bits.deBruijn32tab", Rows.laid_math_bits_deBruijn32tab), ("math/bits.deBruijn64tab", Rows.laid_math_bits_deBruijn64tab), ("internal/strconv.uint64pow10", Rows.laid_internal_strconv_uint64pow10)] W) : Tab W :=
  Lib.tabIs_of_head (rest := []) gPow gPowType Tryd.underlying58 Tryd.underlying52 cells64 cells20 (laidMet.tail (laidMet.tail h))
def cellsOfData : DataW Unit → Array Value
  | .agg ds => (ds.map fun d => match d with
    | .lit (.int k z) => Value.int k z
    | _ => undef).toArray
  | _ => #[]
def layCells (cs : Array Value) : Obj → Obj
  | .cells _ t frozen => .cells cs t frozen
  | o => o
/-- The settled world, with the tables as they are laid. -/
noncomputable def laidWorld (os : Os) : World :=
  { World.holding Tryd.prog os ⟨#[], #[], []⟩ with heap := (((World.holding Tryd.prog os ⟨#[], #[], []⟩).heap.modify 0 (layCells (cellsOfData Rows.laid_internal_strconv_uint64pow10))).modify 1 (layCells (cellsOfData Rows.laid_math_bits_deBruijn32tab))).modify 2 (layCells (cellsOfData Rows.laid_math_bits_deBruijn64tab)) }
end Go.Proofs.YthjncfpgmfbehaaDoor
