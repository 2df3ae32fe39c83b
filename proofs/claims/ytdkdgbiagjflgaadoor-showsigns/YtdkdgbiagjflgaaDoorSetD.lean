/- The document's Of; set.Range and the document's. -/
import Derived.Test.YtdkdgbiagjflgaaDoorSetC
import Derived.StillTailTactics
import Derived.IntWalk
namespace Go.Proofs.YtdkdgbiagjflgaaDoor
open Go.RowKit
end Go.Proofs.YtdkdgbiagjflgaaDoor
