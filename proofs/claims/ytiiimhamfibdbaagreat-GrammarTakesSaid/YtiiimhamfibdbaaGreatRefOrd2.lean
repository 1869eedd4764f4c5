/- What layer 16's reference gives of lists of elements: Great, Same, Sort. Of every list that came in or that a call has made; Sort of at most 1000 elements of at most 100000 bytes each. -/
import Derived.Test.YtiiimhamfibdbaaGreatRefOrd
import Derived.Test.YtiiimhamfibdbaaGreatStrs
import Derived.Deep.QuietTactic
import Derived.BigQuiet
import Derived.Deep.Cut
import Derived.Deep.RegionLaw
namespace Go.Proofs.YtiiimhamfibdbaaGreat
open Go.RowKit Go.PlainAid
set_option linter.unusedVariables false
theorem came_str {w : World} {o : Option Addr} {l : List ByteArray} (h : Came w o (svs l)) {i : Nat} (hi : i < l.length) : ∃ a, o = some a ∧ w.cell? (a.add i) = some (.string l[i]) := h i _ (svs_get hi)
end Go.Proofs.YtiiimhamfibdbaaGreat
