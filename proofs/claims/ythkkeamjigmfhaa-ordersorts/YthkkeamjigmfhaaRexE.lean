/- rex.isBare, rex.Of, rex.nodeMay. -/
import Derived.Test.YthkkeamjigmfhaaRexD
import Derived.Deep.RegionHeld3
namespace Go.Proofs.Ythkkeamjigmfhaa
open Go.RowKit
def bareB (s : Ws) : Bool := sameW s Ws.nil
theorem below_blk {w w1 : World} {B g : Nat} {o : Obj} (h : Below B w w1) (hg : g < B) (hw : w.heap[g]? = some o) : w1.heap[g]? = some o := (h.block g hg).trans hw
def nodeGood (k n : Nat) (q : Bool) : Bool :=
  if k = 1 ∨ k = 2 then decide (n = 0) && q else if k = 3 then decide (n = 0) && !q else if k = 4 ∨ k = 5 then decide (n = 2) && q else if k = 6 then decide (n = 1) && q else false
def goodN : Rx → Bool
  | .node k s ks => nodeGood k ks.length (bareB s)
/-- What a walk reads of a block that holds an expression. -/
def ReCells (x : World) (g : Nat) (k a b c d : Nat) (sl : Value) : Prop := x.cell? ⟨g, 0, none⟩ = some (.int .u8 k) ∧ x.cell? ⟨g, 1, none⟩ = some (.int .u64 a) ∧ x.cell? ⟨g, 2, none⟩ = some (.int .u64 b) ∧ x.cell? ⟨g, 3, none⟩ = some (.int .u64 c) ∧ x.cell? ⟨g, 4, none⟩ = some (.int .u64 d) ∧ x.cell? ⟨g, 5, none⟩ = some sl
theorem reCells_of {x : World} {g k a b c d : Nat} {sl : Value} (h : x.heap[g]? = some (.cells #[.int .u8 k, .int .u64 a, .int .u64 b, .int .u64 c, .int .u64 d, sl] 27)) : ReCells x g k a b c d sl := by
  obtain ⟨d0, d1, d2, d3, d4, d5, _⟩ := cellsR h
  exact ⟨d0, d1, d2, d3, d4, d5⟩
theorem ReCells.below {x y : World} {B g k a b c d : Nat} {sl : Value} (h : ReCells x g k a b c d sl) (hb : Below B x y) (hg : g < B) : ReCells y g k a b c d sl := by
  have e := fun o => hb.cell (p := ⟨g, o, none⟩) hg
  obtain ⟨d0, d1, d2, d3, d4, d5⟩ := h
  exact ⟨by rw [e]; exact d0, by rw [e]; exact d1, by rw [e]; exact d2, by rw [e]; exact d3, by rw [e]; exact d4, by rw [e]; exact d5⟩
theorem keepR {W x y : World} {g k a b c d : Nat} {sl : Value} (h : ReCells W g k a b c d sl) (hg : g < W.heap.size) (h1 : Below W.heap.size W x) (h2 : Below x.heap.size x y) :
    (y.cell? ⟨g, 0, none⟩ = some (.int .u8 k) ∧ y.cell? ⟨g, 1, none⟩ = some (.int .u64 a) ∧ y.cell? ⟨g, 2, none⟩ = some (.int .u64 b) ∧ y.cell? ⟨g, 3, none⟩ = some (.int .u64 c) ∧ y.cell? ⟨g, 4, none⟩ = some (.int .u64 d) ∧ y.cell? ⟨g, 5, none⟩ = some sl) ∧ Below W.heap.size W y := by
  have hb := h1.trans (h2.mono h1.size)
  exact ⟨h.below hb hg, hb⟩
end Go.Proofs.Ythkkeamjigmfhaa
