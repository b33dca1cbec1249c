/- Whether a list rises. -/
import Derived.Test.YtiiadkjiofkonaaGreatGClos
import Derived.WalkKit
import Derived.Below
import Derived.Deep.QuietTactic
import Derived.BigQuiet
import Derived.Deep.RegionHeld3
import Derived.Shelf.Abstract
namespace Go.Proofs.YtiiadkjiofkonaaGreat
open Go.RowKit
set_option linter.unusedVariables false

end Go.Proofs.YtiiadkjiofkonaaGreat
