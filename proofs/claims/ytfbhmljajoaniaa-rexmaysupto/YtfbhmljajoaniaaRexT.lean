/- Six cells of a node, kept. -/
import Derived.Test.YtfbhmljajoaniaaRexN
namespace Go.Proofs.Ytfbhmljajoaniaa
open Go.RowKit
def Six6 (x : World) (b off : Nat) (x0 x1 x2 x3 x4 x5 : Value) : Prop := x.cell? ⟨b, off, none⟩ = some x0 ∧ x.cell? ⟨b, off + 1, none⟩ = some x1 ∧ x.cell? ⟨b, off + 2, none⟩ = some x2 ∧ x.cell? ⟨b, off + 3, none⟩ = some x3 ∧ x.cell? ⟨b, off + 4, none⟩ = some x4 ∧ x.cell? ⟨b, off + 5, none⟩ = some x5
theorem Six6.go {W x : World} {b off B : Nat} {x0 x1 x2 x3 x4 x5 : Value} (h : Six6 W b off x0 x1 x2 x3 x4 x5) (hb : b < B) (hx : Below B W x) : Six6 x b off x0 x1 x2 x3 x4 x5 := by
  obtain ⟨d0, d1, d2, d3, d4, d5⟩ := h
  have e := fun o => hx.cell (p := ⟨b, o, none⟩) hb
  exact ⟨by rw [e]; exact d0, by rw [e]; exact d1, by rw [e]; exact d2, by rw [e]; exact d3, by rw [e]; exact d4, by rw [e]; exact d5⟩
end Go.Proofs.Ytfbhmljajoaniaa
