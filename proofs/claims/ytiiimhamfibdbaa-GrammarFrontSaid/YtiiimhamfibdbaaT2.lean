/- What the reference's char of strings gives. Of every text of at most a million bytes. -/
import Derived.Test.YtiiimhamfibdbaaB0
import Derived.Test.YtiiimhamfibdbaaP0
import Derived.Lib.Strings
import Derived.Laws.Cover1
import Derived.Handy
import Derived.Laws.BytesArg
import Derived.Deep.LoopGhost
namespace Go.Proofs.Ytiiimhamfibdbaa
open Go.RowKit Go.PlainAid
set_option linter.unusedVariables false
end Go.Proofs.Ytiiimhamfibdbaa
/- What the reference's plain, Utf8, Check and last of strings give. Of every tag, byte, and text of at most a million bytes. -/
namespace Go.Proofs.Ytiiimhamfibdbaa
open Go.RowKit Go.PlainAid
set_option linter.unusedVariables false
end Go.Proofs.Ytiiimhamfibdbaa
/- What the reference's Can and Wrong of strings give. Of every tag and number, and every text of at most a million bytes. -/
namespace Go.Proofs.Ytiiimhamfibdbaa
open Go.RowKit Go.PlainAid
set_option linter.unusedVariables false
end Go.Proofs.Ytiiimhamfibdbaa
/- What the reference's Wrong of strings gives. Of every tag and number, and every text of at most 900000 bytes. -/
namespace Go.Proofs.Ytiiimhamfibdbaa
open Go.RowKit Go.PlainAid
set_option linter.unusedVariables false
end Go.Proofs.Ytiiimhamfibdbaa
