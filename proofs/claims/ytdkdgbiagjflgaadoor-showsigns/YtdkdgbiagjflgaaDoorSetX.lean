/- A set's word by its index. -/
import Derived.Test.YtdkdgbiagjflgaaDoorSetA
import Derived.LoopN
namespace Go.Proofs.YtdkdgbiagjflgaaDoor
open Go.RowKit
theorem idx0 (x0 x1 x2 x3 : Value) (w : World) : (Instr.index 28 (.agg #[x0, x1, x2, x3]) (.int .i64 0)).run Tryd.prog w = .ok x0 w := by kernel_rfl
theorem idx1 (x0 x1 x2 x3 : Value) (w : World) : (Instr.index 28 (.agg #[x0, x1, x2, x3]) (.int .i64 1)).run Tryd.prog w = .ok x1 w := by kernel_rfl
theorem idx2 (x0 x1 x2 x3 : Value) (w : World) : (Instr.index 28 (.agg #[x0, x1, x2, x3]) (.int .i64 2)).run Tryd.prog w = .ok x2 w := by kernel_rfl
theorem idx3 (x0 x1 x2 x3 : Value) (w : World) : (Instr.index 28 (.agg #[x0, x1, x2, x3]) (.int .i64 3)).run Tryd.prog w = .ok x3 w := by kernel_rfl
end Go.Proofs.YtdkdgbiagjflgaaDoor
