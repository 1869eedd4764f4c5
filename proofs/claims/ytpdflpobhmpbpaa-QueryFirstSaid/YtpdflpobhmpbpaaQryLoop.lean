/- What the walks of layer 18's laws want of the kit. -/
import Derived.Test.YtpdflpobhmpbpaaQryAwake
import Derived.Test.YtpdflpobhmpbpaaQryGreat
import Derived.Deep.LoopGhost
import Derived.Deep.Cut
import Derived.Deep.QuietTactic
import Derived.BigQuiet
import Derived.Deep.RegionHeld3
namespace Go.Proofs.Ytpdflpobhmpbpaa
end Go.Proofs.Ytpdflpobhmpbpaa
