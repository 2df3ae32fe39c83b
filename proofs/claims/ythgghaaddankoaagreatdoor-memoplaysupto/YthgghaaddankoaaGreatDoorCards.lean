/-
  DERIVED. GIVEN WITH THE SEED: THE CARDS: each row of YthgghaaddankoaaGreatDoorRows.lean that lists a variable, with what it lists TIED to the program's text (the seventh form; the later family's looks); each row that meets fmt, with fmt's text TOLD by the authors' own Lean function (tested against real Go, not proved from fmt's source: count such statements apart). THE CARD IS WHAT COUNTS. Prove the row's statement (the work); the ties are given (YthgghaaddankoaaGreatDoorTie.lean); close each card by the builder's one call (the guide's Derived/Test/ToyasCard.lean, 'card_holds'). Laid BY PROGRAM, IN A SANDBOX (cutbox-door.mjs). By AI agents, Wed Nov 11 2026. No macro, syntax, notation, axiom, sorry.
-/
import Derived.Test.YthgghaaddankoaaGreatDoorRows
import GoSem.ClaimSeven
namespace Go.Proofs.YthgghaaddankoaaGreatDoor
namespace Rows

/-- THE TIED CARD OF 'quilllaw11.MemoPlays'. -/
def memoPlaysCard : Claim7 := { stood := { row := memoPlaysRow, standIns := [], harness := (true, "bf4fe6ca4b1b3b07c4549584217e8ad4df14b61fce54938e57043ff784248cf4"), looks := true }, kinds := [], alts := [], laidByText := true, laidKinds := [.data], laidTests := true, laidLooks := .later }
def MemoPlaysCardSaid : Prop := Claim7.holds Tryz.pinned (.plain (OpenSpec.ofChange memoPlaysSpec)) memoPlaysCard

/-- THE TIED CARD OF 'quilllaw11.MemoStays'. -/
def memoStaysCard : Claim7 := { stood := { row := memoStaysRow, standIns := [], harness := (true, "bf4fe6ca4b1b3b07c4549584217e8ad4df14b61fce54938e57043ff784248cf4"), looks := true }, kinds := [], alts := [], laidByText := true, laidKinds := [.data], laidTests := true, laidLooks := .later }
def MemoStaysCardSaid : Prop := Claim7.holds Tryz.pinned (.plain (OpenSpec.ofChange memoStaysSpec)) memoStaysCard

/-- THE TIED CARD OF 'quilllaw11.MemoNil'. -/
def memoNilCard : Claim7 := { stood := { row := memoNilRow, standIns := [], harness := (true, "bf4fe6ca4b1b3b07c4549584217e8ad4df14b61fce54938e57043ff784248cf4"), looks := true }, kinds := [], alts := [], laidByText := true, laidKinds := [.data], laidTests := true, laidLooks := .later }
def MemoNilCardSaid : Prop := Claim7.holds Tryz.pinned (.plain (OpenSpec.ofChange memoNilSpec)) memoNilCard

/-- THE TIED CARD OF 'quilllaw11.MemoOnce'. -/
def memoOnceCard : Claim7 := { stood := { row := memoOnceRow, standIns := [], harness := (true, "bf4fe6ca4b1b3b07c4549584217e8ad4df14b61fce54938e57043ff784248cf4"), looks := true }, kinds := [], alts := [], laidByText := true, laidKinds := [.data], laidTests := true, laidLooks := .later }
def MemoOnceCardSaid : Prop := Claim7.holds Tryz.pinned (.plain (OpenSpec.ofChange memoOnceSpec)) memoOnceCard

/-- THE SECOND FORM's CARD OF 'quilllaw11.MemoPlays'. -/
def memoPlaysUptoCard : Claim7 := { stood := { row := memoPlaysUptoRow, standIns := [], harness := (true, "bf4fe6ca4b1b3b07c4549584217e8ad4df14b61fce54938e57043ff784248cf4"), looks := true }, kinds := [], alts := [], laidByText := true, laidKinds := [.data], laidTests := true, laidLooks := .later }
def MemoPlaysUptoCardSaid : Prop := Claim7.holds Tryz.pinned (.plain (OpenSpec.upto memoPlaysSpec)) memoPlaysUptoCard

/-- THE SECOND FORM's CARD OF 'quilllaw11.MemoStays'. -/
def memoStaysUptoCard : Claim7 := { stood := { row := memoStaysUptoRow, standIns := [], harness := (true, "bf4fe6ca4b1b3b07c4549584217e8ad4df14b61fce54938e57043ff784248cf4"), looks := true }, kinds := [], alts := [], laidByText := true, laidKinds := [.data], laidTests := true, laidLooks := .later }
def MemoStaysUptoCardSaid : Prop := Claim7.holds Tryz.pinned (.plain (OpenSpec.upto memoStaysSpec)) memoStaysUptoCard

/-- THE SECOND FORM's CARD OF 'quilllaw11.MemoNil'. -/
def memoNilUptoCard : Claim7 := { stood := { row := memoNilUptoRow, standIns := [], harness := (true, "bf4fe6ca4b1b3b07c4549584217e8ad4df14b61fce54938e57043ff784248cf4"), looks := true }, kinds := [], alts := [], laidByText := true, laidKinds := [.data], laidTests := true, laidLooks := .later }
def MemoNilUptoCardSaid : Prop := Claim7.holds Tryz.pinned (.plain (OpenSpec.upto memoNilSpec)) memoNilUptoCard

/-- THE SECOND FORM's CARD OF 'quilllaw11.MemoOnce'. -/
def memoOnceUptoCard : Claim7 := { stood := { row := memoOnceUptoRow, standIns := [], harness := (true, "bf4fe6ca4b1b3b07c4549584217e8ad4df14b61fce54938e57043ff784248cf4"), looks := true }, kinds := [], alts := [], laidByText := true, laidKinds := [.data], laidTests := true, laidLooks := .later }
def MemoOnceUptoCardSaid : Prop := Claim7.holds Tryz.pinned (.plain (OpenSpec.upto memoOnceSpec)) memoOnceUptoCard
end Rows
end Go.Proofs.YthgghaaddankoaaGreatDoor
