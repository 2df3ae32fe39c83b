/- Lemmas of mine, merged: RefHex. -/
import Derived.Deep.QuietTactic
import Derived.BigQuiet
import Derived.IntWalk
import Derived.Test.YthnecifdgoeenaaDoorNumHexAAll
/- quillref01's Digit and Hex: the same digits as num's. -/
namespace Go.Proofs.YthnecifdgoeenaaDoor
open Go.RowKit
theorem hexC_ext : ∀ i : Fin 16, (ByteArray.mk #[48, 49, 50, 51, 52, 53, 54, 55, 56, 57, 97, 98, 99, 100, 101, 102]).extract i.1 (i.1 + 1) = ⟨#[hexD i.1]⟩ := by decide
theorem hexC_one (n : Nat) (h : n < 16) : (ByteArray.mk #[48, 49, 50, 51, 52, 53, 54, 55, 56, 57, 97, 98, 99, 100, 101, 102]).extract n (n + 1) = ⟨#[hexD n]⟩ := hexC_ext ⟨n, h⟩
theorem w16 (c : Nat) (h : c < 256) : IntKind.i64.wrap (c : Int) = (c : Int) ∧ IntKind.i64.wrap ((c : Int) / 16) = (c : Int) / 16 ∧ IntKind.i64.wrap ((c : Int) % 16) = (c : Int) % 16 :=
  ⟨IntWalk.i64_in _ (by omega), IntWalk.i64_in _ (by omega), IntWalk.i64_in _ (by omega)⟩
theorem app2 (X : List UInt8) (a b : UInt8) : (ByteArray.mk X.toArray ++ ByteArray.mk #[a] ++ ByteArray.mk #[b]) = ByteArray.mk (X ++ [a, b]).toArray := by
  apply ByteArray.ext
  simp [ByteArray.data_append]
def refHexInv (l : List UInt8) (w : World) (o i : Value) (wr : World) : Prop := ∃ k n : Nat, k ≤ l.length ∧ i = .int .i64 k ∧ o = .string ⟨(hexL (l.take k)).toArray⟩ ∧ wr = w.drewN n
end Go.Proofs.YthnecifdgoeenaaDoor
