/- The document's With; set.Of, set.Range and the document's. -/
import Derived.Test.YtdkdgbiagjflgaaDoorSetA
namespace Go.Proofs.YtdkdgbiagjflgaaDoor
open Go.RowKit
def dblInv (n : Nat) (o i : Value) : Prop := ∃ k y : Nat, k ≤ n % 64 ∧ y = 2 ^ k ∧ i = .int .i64 k ∧ o = .int .u64 y
theorem add_bit64 {x n : Nat} (hx : x < 18446744073709551616) (h : x.testBit (n % 64) = false) : x + 2 ^ (n % 64) < 18446744073709551616 := by
  rw [add_bit h]; exact or_lt hx (pow_lt64 n)
end Go.Proofs.YtdkdgbiagjflgaaDoor
