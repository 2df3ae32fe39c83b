/- Lemmas of mine, merged: SetH. -/
import Derived.Laws.Bits64b
import Derived.OwnWalk
import Derived.Test.YtfmdcnfniimkoaaGreatSetDAll
import Derived.Test.YtfmdcnfniimkoaaGreatSetMAll
import Derived.Test.YtfmdcnfniimkoaaGreatNumBuildAll
import Derived.Test.YtfmdcnfniimkoaaGreatBaseAll
/- math/bits.TrailingZeros64; the document's Bytes; set.Bytes. -/
namespace Go.Proofs.YtfmdcnfniimkoaaGreat
open Go.RowKit
theorem tz_key (x a : Nat) (hx : x < 18446744073709551616) (hx0 : x ≠ 0) (hlow : x &&& (18446744073709551616 - x) = a) :
    IntKind.u64.wrap (bits BinOp.and IntKind.u64 (x : Int) (IntKind.u64.wrap (-(x : Int))) * 285870213051353865) / 288230376151711744 = ((a * 285870213051353865 % 18446744073709551616 / 288230376151711744 : Nat) : Int) := by
  have e1 : IntKind.u64.wrap (-(x : Int)) = ((18446744073709551616 - x : Nat) : Int) := by rw [IntKind.wrap_u64]; omega
  rw [e1, u64_and_nat x _ hx (by omega), hlow, IntKind.wrap_u64]
  omega
theorem own_ne_box {w : World} {B g : Nat} {s : Ws} {v : Value} {n : Nat} {xs : List Value} (h : w.ownsRow B 5 1 v n xs) (hx : Box w g s) : some g ≠ v.ownBlock := by
  intro hv
  obtain ⟨_, ⟨rfl, _⟩ | ⟨g', cap, cur, rfl, _, hg, _⟩⟩ := h
  · simp [Value.ownBlock] at hv
  · simp [Value.ownBlock] at hv; subst hv
    unfold Box at hx
    rw [hg] at hx
    simp at hx
theorem cell_byte (n : Nat) (h : n < 256) : Lib.byteCells (u8s [n]) = [.int .u8 n] := by
  have : (UInt8.ofNat n).toNat = n := by simp; omega
  simp [u8s, Lib.byteCells, this]
def bytesInv (s : Ws) (w : World) (v i : Value) (wr : World) : Prop := ∃ k : Nat, k ≤ 256 ∧ i = .int .i64 k ∧ Box wr w.heap.size s ∧ Below w.heap.size w wr ∧ wr.ownsRow w.heap.size 5 1 v (upto s k).length (Lib.byteCells (u8s (upto s k)))
end Go.Proofs.YtfmdcnfniimkoaaGreat
