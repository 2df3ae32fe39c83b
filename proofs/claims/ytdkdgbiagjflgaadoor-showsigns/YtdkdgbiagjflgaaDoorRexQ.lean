/- Rows of expressions that a call itself makes by append; quillref03's Word. -/
import Derived.Test.YtdkdgbiagjflgaaDoorRexP
import Derived.Test.YtdkdgbiagjflgaaDoorSetD
import Derived.Test.YtdkdgbiagjflgaaDoorRowV
import Derived.OwnWalk
namespace Go.Proofs.YtdkdgbiagjflgaaDoor
open Go.RowKit
def rwInv (s : ByteArray) (w : World) (v y : Value) (wr : World) : Prop := ∃ (i : Nat) (xs : List Value), i ≤ s.size ∧ y = .int .i64 i ∧ wr.heap[w.heap.size]? = some nilBlk ∧ Below w.heap.size w wr ∧ wr.ownsRow (w.heap.size + 1) 30 6 v i xs ∧ RowVals None wr xs ((wordL s).take i)
end Go.Proofs.YtdkdgbiagjflgaaDoor
