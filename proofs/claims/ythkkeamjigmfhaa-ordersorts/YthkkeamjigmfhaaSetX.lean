/- A set's word by its index. -/
import Derived.Test.YthkkeamjigmfhaaSetA
import Derived.LoopN
namespace Go.Proofs.Ythkkeamjigmfhaa
open Go.RowKit
theorem idx0 (x0 x1 x2 x3 : Value) (w : World) : (Instr.index 24 (.agg #[x0, x1, x2, x3]) (.int .i64 0)).run Try.prog w = .ok x0 w := by kernel_rfl
theorem idx1 (x0 x1 x2 x3 : Value) (w : World) : (Instr.index 24 (.agg #[x0, x1, x2, x3]) (.int .i64 1)).run Try.prog w = .ok x1 w := by kernel_rfl
theorem idx2 (x0 x1 x2 x3 : Value) (w : World) : (Instr.index 24 (.agg #[x0, x1, x2, x3]) (.int .i64 2)).run Try.prog w = .ok x2 w := by kernel_rfl
theorem idx3 (x0 x1 x2 x3 : Value) (w : World) : (Instr.index 24 (.agg #[x0, x1, x2, x3]) (.int .i64 3)).run Try.prog w = .ok x3 w := by kernel_rfl
end Go.Proofs.Ythkkeamjigmfhaa
