/- Arguments opened: sets by value, slices of bytes, slices of sets; the table of math/bits as the row lays it. -/
import Derived.Test.YtfjagcfbnnbpeaaDoorSetAw
import Derived.Test.YtfjagcfbnnbpeaaDoorCards
import Derived.Test.YtfjagcfbnnbpeaaDoorTie
import Derived.ProofKit
import Derived.OpenShut
import Derived.ShutString
import Derived.ChangeOld
import Derived.Deep.DeepHandedRow
import Derived.Laws.IdiomArrays
import Derived.Lib.LaidTab
import Derived.Deep.Slices
namespace Go.Proofs.YtfjagcfbnnbpeaaDoor
open Go.ChangeShapes Go.WideShapes Go.ChangeAt Go.RowKit
theorem own : ownKnob Tryd.prog.godebug = none := by kernel_rfl
theorem laidOut : laidOutB Tryd.prog = true := by kernel_rfl
theorem cellsW : Tryd.prog.cellsOf 24 = 1 := by kernel_rfl
theorem cellsS : Tryd.prog.cellsOf 26 = 4 := by kernel_rfl
theorem list_four {α : Type} (l : List α) (h : (⟨l⟩ : Array α).size = 4) : ∃ a b c d, l = [a, b, c, d] := by
  match l, h with
  | [a, b, c, d], _ => exact ⟨a, b, c, d, rfl⟩
theorem u64_nat {n : Int} (h : (Lit.int .u64 n).wf = true) : ∃ m : Nat, n = m ∧ m < 18446744073709551616 := by
  simp [Lit.wf, IntKind.min, IntKind.max, IntKind.signed, IntKind.bits] at h
  exact ⟨n.toNat, by omega, by omega⟩
theorem u8_nat {n : Int} (h : (Lit.int .u8 n).wf = true) : ∃ m : Nat, n = m ∧ m < 256 := by
  simp [Lit.wf, IntKind.min, IntKind.max, IntKind.signed, IntKind.bits] at h
  exact ⟨n.toNat, by omega, by omega⟩
theorem set_of_cells {H : Type} {enc : TypeId × Value → H} {W : World} {base : Nat} {sp : Nat → Bool} {held : Bool} {fuel : Nat} {c0 c1 c2 c3 : Value} {x : DataW H × List MemPlace}
    (h : DataW.trod enc Tryd.prog W base sp held fuel 26 [c0, c1, c2, c3] = some x) : ∃ s : Ws, s.Ok ∧ c0 = .int .u64 s.a ∧ c1 = .int .u64 s.b ∧ c2 = .int .u64 s.c ∧ c3 = .int .u64 s.d := by
  obtain ⟨y0, y1, y2, y3, m, _, hy0, hy1, hy2, hy3⟩ := trod_array4 Tryd.underlying26 cellsW h
  obtain ⟨x0, e0, _, w0⟩ := DataW.trod_int Tryd.underlying24 hy0
  obtain ⟨x1, e1, _, w1⟩ := DataW.trod_int Tryd.underlying24 hy1
  obtain ⟨x2, e2, _, w2⟩ := DataW.trod_int Tryd.underlying24 hy2
  obtain ⟨x3, e3, _, w3⟩ := DataW.trod_int Tryd.underlying24 hy3
  simp at e0 e1 e2 e3
  obtain ⟨m0, rfl, h0⟩ := u64_nat w0
  obtain ⟨m1, rfl, h1⟩ := u64_nat w1
  obtain ⟨m2, rfl, h2⟩ := u64_nat w2
  obtain ⟨m3, rfl, h3⟩ := u64_nat w3
  exact ⟨⟨m0, m1, m2, m3⟩, ⟨h0, h1, h2, h3⟩, e0, e1, e2, e3⟩
theorem open_set {H : Type} {enc : TypeId × Value → H} {W : World} {base b0 : Nat} {r : Reach} {sp : Nat → Bool} {held : Bool} {v : Value} {d : DataW H} {p : List MemPlace}
    (hv : Value.okWide Tryd.prog W r b0 26 v) (h : DataW.Trod enc Tryd.prog W base sp held 26 v d p) : ∃ s : Ws, s.Ok ∧ v = s.v := by
  obtain ⟨cs, rfl, hsz, _⟩ : ∃ cs, v = .agg cs ∧ cs.size = Tryd.prog.cellsOf 26 ∧ Row.okWide Tryd.prog W r b0 26 cs := by
    simpa [Value.okWide, Tryd.underlying26] using hv
  rw [cellsS] at hsz
  obtain ⟨l⟩ := cs
  obtain ⟨c0, c1, c2, c3, rfl⟩ := list_four l hsz
  obtain ⟨fuel, hf⟩ := h
  obtain ⟨s, hs, rfl, rfl, rfl, rfl⟩ := set_of_cells hf
  exact ⟨s, hs, rfl⟩
theorem cellsE : Tryd.prog.cellsOf 5 = 1 := by kernel_rfl
theorem cellsT : Tryd.prog.cellsOf 66 = 64 := by kernel_rfl
theorem gTab : Tryd.prog.globalNamed "math/bits.deBruijn64tab" = some 0 := by kernel_rfl
theorem gTy : (Tryd.prog.globals[0]?).map (·.type) = some 66 := by kernel_rfl
def dbTab : List Int := Lib.deBruijn64tab.map fun (n : Nat) => (n : Int)
theorem tab_eq : (Lib.tabData .u8 dbTab : DataW Unit) = Rows.laid_math_bits_deBruijn64tab := by kernel_rfl
theorem table {W : World} (h : laidMet Tryd.prog [("math/bits.deBruijn64tab", Rows.laid_math_bits_deBruijn64tab)] W) : Tab W := by
  obtain ⟨ps, ⟨g, t, cs, fuel, p, q, hg, ht, hvar, hd, _, _⟩, _⟩ := h
  obtain rfl := Option.some.inj (gTab.symm.trans hg)
  obtain rfl := Option.some.inj (gTy.symm.trans ht)
  rw [← tab_eq] at hd
  have hT : Lib.TabIs Tryd.prog W "math/bits.deBruijn64tab" .u8 dbTab := by
    unfold Lib.TabIs
    rw [hvar, ← Lib.cells_of_tab Tryd.underlying66 Tryd.underlying5 cellsE cellsT hd]
  have hc : ∀ j, j < 64 → W.cell? ⟨0, j, none⟩ = some (.int .u8 (Lib.deBruijn64tab.getD j 0)) := by
    intro j hj
    have hl : j < dbTab.length := by simpa [dbTab, Lib.deBruijn64tab] using hj
    rw [Lib.TabIs.cell hT gTab j hl]
    have hl' : j < Lib.deBruijn64tab.length := by simpa [dbTab] using hl
    simp [dbTab, List.getD_eq_getElem?_getD, List.getElem?_eq_getElem hl']
  refine ⟨?_, hc⟩
  rcases Nat.lt_or_ge 0 W.heap.size with g | g
  · exact g
  · have := hc 0 (by decide)
    simp [World.cell?, Array.getElem?_eq_none g] at this
def cellsFor : DataW Unit → Array Value
  | .agg l => (l.map fun d => match d with | .lit (.int k n) => Value.int k n | _ => Value.bool false).toArray
  | _ => #[]
def putCells (c : Array Value) : Obj → Obj
  | .cells _ t frozen => .cells c t frozen
  | o => o
noncomputable def laidWorld (os : Os) : World :=
  { World.holding Tryd.prog os ⟨#[], #[], []⟩ with heap := (World.holding Tryd.prog os ⟨#[], #[], []⟩).heap.modify 0 (putCells (cellsFor Rows.laid_math_bits_deBruijn64tab)) }
end Go.Proofs.YtfjagcfbnnbpeaaDoor
