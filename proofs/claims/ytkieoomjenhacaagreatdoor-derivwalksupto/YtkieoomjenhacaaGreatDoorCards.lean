/-
  DERIVED. GIVEN WITH THE SEED: THE CARDS: each row of YtkieoomjenhacaaGreatDoorRows.lean that lists a variable, with what it lists TIED to the program's text (the seventh form; the later family's looks); each row that meets fmt, with fmt's text TOLD by the authors' own Lean function (tested against real Go, not proved from fmt's source: count such statements apart). THE CARD IS WHAT COUNTS. Prove the row's statement (the work); the ties are given (YtkieoomjenhacaaGreatDoorTie.lean); close each card by the builder's one call (the guide's Derived/Test/ToyasCard.lean, 'card_holds'). Laid BY PROGRAM, IN A SANDBOX (cutbox-door.mjs). By AI agents, Wed Nov 11 2026. No macro, syntax, notation, axiom, sorry.
-/
import Derived.Test.YtkieoomjenhacaaGreatDoorRows
import GoSem.ClaimSeven
namespace Go.Proofs.YtkieoomjenhacaaGreatDoor
namespace Rows

/-- THE TIED CARD OF 'quilllaw09.DerivIs'. -/
def derivIsCard : Claim7 := { stood := { row := derivIsRow, standIns := [], harness := (true, "0c13f4e6925e7e814ea343df03e00b1c45fc8ca9ff61653d384200775a7e8c9c"), looks := true }, kinds := [], alts := [], laidByText := true, laidKinds := [.data], laidTests := true, laidLooks := .later }
def DerivIsCardSaid : Prop := Claim7.holds Tryz.pinned (.plain (OpenSpec.ofChange derivIsSpec)) derivIsCard

/-- THE TIED CARD OF 'quilllaw09.DerivWalks'. -/
def derivWalksCard : Claim7 := { stood := { row := derivWalksRow, standIns := [], harness := (true, "0c13f4e6925e7e814ea343df03e00b1c45fc8ca9ff61653d384200775a7e8c9c"), looks := true }, kinds := [], alts := [], laidByText := true, laidKinds := [.data], laidTests := true, laidLooks := .later }
def DerivWalksCardSaid : Prop := Claim7.holds Tryz.pinned (.plain (OpenSpec.ofChange derivWalksSpec)) derivWalksCard

/-- THE TIED CARD OF 'quilllaw09.DerivFits'. -/
def derivFitsCard : Claim7 := { stood := { row := derivFitsRow, standIns := [], harness := (true, "0c13f4e6925e7e814ea343df03e00b1c45fc8ca9ff61653d384200775a7e8c9c"), looks := true }, kinds := [], alts := [], laidByText := true, laidKinds := [.data], laidTests := true, laidLooks := .later }
def DerivFitsCardSaid : Prop := Claim7.holds Tryz.pinned (.plain (OpenSpec.ofChange derivFitsSpec)) derivFitsCard

/-- THE TIED CARD OF 'quilllaw09.DerivLeft'. -/
def derivLeftCard : Claim7 := { stood := { row := derivLeftRow, standIns := [], harness := (true, "0c13f4e6925e7e814ea343df03e00b1c45fc8ca9ff61653d384200775a7e8c9c"), looks := true }, kinds := [], alts := [], laidByText := true, laidKinds := [.data], laidTests := true, laidLooks := .later }
def DerivLeftCardSaid : Prop := Claim7.holds Tryz.pinned (.plain (OpenSpec.ofChange derivLeftSpec)) derivLeftCard

/-- THE TIED CARD OF 'quilllaw09.DerivParts'. -/
def derivPartsCard : Claim7 := { stood := { row := derivPartsRow, standIns := [], harness := (true, "0c13f4e6925e7e814ea343df03e00b1c45fc8ca9ff61653d384200775a7e8c9c"), looks := true }, kinds := [], alts := [], laidByText := true, laidKinds := [.data], laidTests := true, laidLooks := .later }
def DerivPartsCardSaid : Prop := Claim7.holds Tryz.pinned (.plain (OpenSpec.ofChange derivPartsSpec)) derivPartsCard

/-- THE SECOND FORM's CARD OF 'quilllaw09.DerivIs'. -/
def derivIsUptoCard : Claim7 := { stood := { row := derivIsUptoRow, standIns := [], harness := (true, "0c13f4e6925e7e814ea343df03e00b1c45fc8ca9ff61653d384200775a7e8c9c"), looks := true }, kinds := [], alts := [], laidByText := true, laidKinds := [.data], laidTests := true, laidLooks := .later }
def DerivIsUptoCardSaid : Prop := Claim7.holds Tryz.pinned (.plain (OpenSpec.upto derivIsSpec)) derivIsUptoCard

/-- THE SECOND FORM's CARD OF 'quilllaw09.DerivWalks'. -/
def derivWalksUptoCard : Claim7 := { stood := { row := derivWalksUptoRow, standIns := [], harness := (true, "0c13f4e6925e7e814ea343df03e00b1c45fc8ca9ff61653d384200775a7e8c9c"), looks := true }, kinds := [], alts := [], laidByText := true, laidKinds := [.data], laidTests := true, laidLooks := .later }
def DerivWalksUptoCardSaid : Prop := Claim7.holds Tryz.pinned (.plain (OpenSpec.upto derivWalksSpec)) derivWalksUptoCard

/-- THE SECOND FORM's CARD OF 'quilllaw09.DerivFits'. -/
def derivFitsUptoCard : Claim7 := { stood := { row := derivFitsUptoRow, standIns := [], harness := (true, "0c13f4e6925e7e814ea343df03e00b1c45fc8ca9ff61653d384200775a7e8c9c"), looks := true }, kinds := [], alts := [], laidByText := true, laidKinds := [.data], laidTests := true, laidLooks := .later }
def DerivFitsUptoCardSaid : Prop := Claim7.holds Tryz.pinned (.plain (OpenSpec.upto derivFitsSpec)) derivFitsUptoCard

/-- THE SECOND FORM's CARD OF 'quilllaw09.DerivLeft'. -/
def derivLeftUptoCard : Claim7 := { stood := { row := derivLeftUptoRow, standIns := [], harness := (true, "0c13f4e6925e7e814ea343df03e00b1c45fc8ca9ff61653d384200775a7e8c9c"), looks := true }, kinds := [], alts := [], laidByText := true, laidKinds := [.data], laidTests := true, laidLooks := .later }
def DerivLeftUptoCardSaid : Prop := Claim7.holds Tryz.pinned (.plain (OpenSpec.upto derivLeftSpec)) derivLeftUptoCard

/-- THE SECOND FORM's CARD OF 'quilllaw09.DerivParts'. -/
def derivPartsUptoCard : Claim7 := { stood := { row := derivPartsUptoRow, standIns := [], harness := (true, "0c13f4e6925e7e814ea343df03e00b1c45fc8ca9ff61653d384200775a7e8c9c"), looks := true }, kinds := [], alts := [], laidByText := true, laidKinds := [.data], laidTests := true, laidLooks := .later }
def DerivPartsUptoCardSaid : Prop := Claim7.holds Tryz.pinned (.plain (OpenSpec.upto derivPartsSpec)) derivPartsUptoCard
end Rows
end Go.Proofs.YtkieoomjenhacaaGreatDoor
