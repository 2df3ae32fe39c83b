/-
  DERIVED. GIVEN WITH THE SEED: THE CARDS: each row of YthnecifdgoeenaaDoorRows.lean that lists a variable, with what it lists TIED to the program's text (the seventh form; the later family's looks); each row that meets fmt, with fmt's text TOLD by the authors' own Lean function (tested against real Go, not proved from fmt's source: count such statements apart). THE CARD IS WHAT COUNTS. Prove the row's statement (the work); the ties are given (YthnecifdgoeenaaDoorTie.lean); close each card by the builder's one call (the guide's Derived/Test/ToyasCard.lean, 'card_holds'). Laid BY PROGRAM, IN A SANDBOX (cutbox-door.mjs). By AI agents, Wed Nov 11 2026. No macro, syntax, notation, axiom, sorry.
-/
import Derived.Test.YthnecifdgoeenaaDoorRows
import GoSem.ClaimSeven
namespace Go.Proofs.YthnecifdgoeenaaDoor
namespace Rows

/-- THE TIED CARD OF 'quilllaw07.NullFirst'. -/
def nullFirstCard : Claim7 := { stood := { row := nullFirstRow, standIns := [], harness := (true, "92a13c62c88e5d3a369f8f20f0995fad2efcb283ddc8c442c986ee501bce8a41"), looks := true }, kinds := [], alts := [], laidByText := true, laidKinds := [.data], laidTests := true, laidLooks := .later }
def NullFirstCardSaid : Prop := Claim7.holds Tryd.pinned (.plain (OpenSpec.ofChange nullFirstSpec)) nullFirstCard

/-- THE SECOND FORM's CARD OF 'quilllaw07.NullFirst'. -/
def nullFirstUptoCard : Claim7 := { stood := { row := nullFirstUptoRow, standIns := [], harness := (true, "92a13c62c88e5d3a369f8f20f0995fad2efcb283ddc8c442c986ee501bce8a41"), looks := true }, kinds := [], alts := [], laidByText := true, laidKinds := [.data], laidTests := true, laidLooks := .later }
def NullFirstUptoCardSaid : Prop := Claim7.holds Tryd.pinned (.plain (OpenSpec.upto nullFirstSpec)) nullFirstUptoCard
end Rows
end Go.Proofs.YthnecifdgoeenaaDoor
