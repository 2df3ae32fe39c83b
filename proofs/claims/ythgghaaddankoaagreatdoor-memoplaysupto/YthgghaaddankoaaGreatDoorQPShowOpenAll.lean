/- Lemmas of mine, merged: QPShowOpen. -/
import Derived.Deep.DeepHandedRow
import Derived.Lib.LaidTab
import Derived.Test.YthgghaaddankoaaGreatDoorQPRexOpenAll
import Derived.Test.YthgghaaddankoaaGreatDoorQPSetHAll
import Derived.Test.YthgghaaddankoaaGreatDoorCards
import Derived.Test.YthgghaaddankoaaGreatDoorTie
/- Lemmas of mine. -/
namespace Go.Proofs.YthgghaaddankoaaGreatDoor
open Go.ChangeShapes Go.WideShapes Go.ChangeAt Go.RowKit
theorem cellsT : Tryz.prog.cellsOf 186 = 64 := by kernel_rfl
theorem gTab : Tryz.prog.globalNamed "math/bits.deBruijn64tab" = some 0 := by kernel_rfl
theorem gTy : (Tryz.prog.globals[0]?).map (·.type) = some 186 := by kernel_rfl
def dbTab : List Int := Lib.deBruijn64tab.map fun (n : Nat) => (n : Int)
theorem tab_eq : (Lib.tabData .u8 dbTab : DataW Unit) = Rows.laid_math_bits_deBruijn64tab := by kernel_rfl
theorem table {W : World} (h : laidMet Tryz.prog [("math/bits.deBruijn64tab", Rows.laid_math_bits_deBruijn64tab)] W) : Tab W := by
  obtain ⟨ps, ⟨g, t, cs, fuel, p, q, hg, ht, hvar, hd, _, _⟩, _⟩ := h; obtain rfl := Option.some.inj (gTab.symm.trans hg); obtain rfl := Option.some.inj (gTy.symm.trans ht); rw [← tab_eq] at hd
  have hT : Lib.TabIs Tryz.prog W "math/bits.deBruijn64tab" .u8 dbTab := by
    unfold Lib.TabIs; rw [hvar, ← Lib.cells_of_tab Tryz.underlying186 Tryz.underlying5 cellsB cellsT hd]
  have hc : ∀ j, j < 64 → W.cell? ⟨0, j, none⟩ = some (.int .u8 (Lib.deBruijn64tab.getD j 0)) := by
    intro j hj; (have hl : j < dbTab.length := by simpa [dbTab, Lib.deBruijn64tab] using hj); rw [Lib.TabIs.cell hT gTab j hl]; (have hl' : j < Lib.deBruijn64tab.length := by simpa [dbTab] using hl); simp [dbTab, List.getD_eq_getElem?_getD, List.getElem?_eq_getElem hl']
  refine ⟨?_, hc⟩
  rcases Nat.lt_or_ge 0 W.heap.size with g | g
  · exact g
  · have := hc 0 (by decide); simp [World.cell?, Array.getElem?_eq_none g] at this
def cellsFor : DataW Unit → Array Value
  | .agg l => (l.map fun d => match d with | .lit (.int k n) => Value.int k n | _ => Value.bool false).toArray
  | _ => #[]
def putCells (c : Array Value) : Obj → Obj
  | .cells _ t frozen => .cells c t frozen
  | o => o
noncomputable def laidWorld (os : Os) : World :=
  { World.holding Tryz.prog os ⟨#[], #[], []⟩ with heap := (World.holding Tryz.prog os ⟨#[], #[], []⟩).heap.modify 0 (putCells (cellsFor Rows.laid_math_bits_deBruijn64tab)) }
end Go.Proofs.YthgghaaddankoaaGreatDoor
