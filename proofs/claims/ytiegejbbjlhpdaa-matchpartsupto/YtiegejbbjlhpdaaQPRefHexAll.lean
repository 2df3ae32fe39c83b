/- Lemmas of mine, merged: QPRefHex. -/
import Derived.Deep.QuietTactic
import Derived.BigQuiet
import Derived.IntWalk
import Derived.Test.YtiegejbbjlhpdaaQPNumHexAAll
/- Lemmas of mine. -/
namespace Go.Proofs.Ytiegejbbjlhpdaa
open Go.RowKit
theorem w16 (c : Nat) (h : c < 256) : IntKind.i64.wrap (c : Int) = (c : Int) ∧ IntKind.i64.wrap ((c : Int) / 16) = (c : Int) / 16 ∧ IntKind.i64.wrap ((c : Int) % 16) = (c : Int) % 16 :=
  ⟨IntWalk.i64_in _ (by omega), IntWalk.i64_in _ (by omega), IntWalk.i64_in _ (by omega)⟩
end Go.Proofs.Ytiegejbbjlhpdaa
