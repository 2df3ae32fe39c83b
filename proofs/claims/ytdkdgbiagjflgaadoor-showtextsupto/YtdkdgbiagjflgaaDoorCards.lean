/-
  DERIVED. GIVEN WITH THE SEED: THE CARDS: each row of YtdkdgbiagjflgaaDoorRows.lean that lists a variable, with what it lists TIED to the program's text (the seventh form; the later family's looks); each row that meets fmt, with fmt's text TOLD by the authors' own Lean function (tested against real Go, not proved from fmt's source: count such statements apart). THE CARD IS WHAT COUNTS. Prove the row's statement (the work); the ties are given (YtdkdgbiagjflgaaDoorTie.lean); close each card by the builder's one call (the guide's Derived/Test/ToyasCard.lean, 'card_holds'). Laid BY PROGRAM, IN A SANDBOX (cutbox-door.mjs). By AI agents, Wed Nov 11 2026. No macro, syntax, notation, axiom, sorry.
-/
import Derived.Test.YtdkdgbiagjflgaaDoorRows
import GoSem.ClaimSeven
namespace Go.Proofs.YtdkdgbiagjflgaaDoor
namespace Rows

/-- THE TIED CARD OF 'quilllaw05.ShowTexts'. -/
def showTextsCard : Claim7 := { stood := { row := showTextsRow, standIns := [], harness := (true, "c0ff2f7ff475ffd4696645504d6ab011c48e2abce7aae1f55201ece2fa155886"), looks := false }, kinds := [], alts := [], laidByText := true, laidKinds := [.data], laidTests := true, laidLooks := .later }
def ShowTextsCardSaid : Prop := Claim7.holds Tryd.pinned (.plain (OpenSpec.ofChange showTextsSpec)) showTextsCard

/-- THE TIED CARD OF 'quilllaw05.ShowApart'. -/
def showApartCard : Claim7 := { stood := { row := showApartRow, standIns := [], harness := (true, "c0ff2f7ff475ffd4696645504d6ab011c48e2abce7aae1f55201ece2fa155886"), looks := false }, kinds := [], alts := [], laidByText := true, laidKinds := [.data], laidTests := true, laidLooks := .later }
def ShowApartCardSaid : Prop := Claim7.holds Tryd.pinned (.plain (OpenSpec.ofChange showApartSpec)) showApartCard

/-- THE TIED CARD OF 'quilllaw05.ShowTurns'. -/
def showTurnsCard : Claim7 := { stood := { row := showTurnsRow, standIns := [], harness := (true, "c0ff2f7ff475ffd4696645504d6ab011c48e2abce7aae1f55201ece2fa155886"), looks := false }, kinds := [], alts := [], laidByText := true, laidKinds := [.data], laidTests := true, laidLooks := .later }
def ShowTurnsCardSaid : Prop := Claim7.holds Tryd.pinned (.plain (OpenSpec.ofChange showTurnsSpec)) showTurnsCard

/-- THE TIED CARD OF 'quilllaw05.ShowSigns'. -/
def showSignsCard : Claim7 := { stood := { row := showSignsRow, standIns := [], harness := (true, "c0ff2f7ff475ffd4696645504d6ab011c48e2abce7aae1f55201ece2fa155886"), looks := false }, kinds := [], alts := [], laidByText := true, laidKinds := [.data], laidTests := true, laidLooks := .later }
def ShowSignsCardSaid : Prop := Claim7.holds Tryd.pinned (.plain (OpenSpec.ofChange showSignsSpec)) showSignsCard

/-- THE SECOND FORM's CARD OF 'quilllaw05.ShowTexts'. -/
def showTextsUptoCard : Claim7 := { stood := { row := showTextsUptoRow, standIns := [], harness := (true, "c0ff2f7ff475ffd4696645504d6ab011c48e2abce7aae1f55201ece2fa155886"), looks := false }, kinds := [], alts := [], laidByText := true, laidKinds := [.data], laidTests := true, laidLooks := .later }
def ShowTextsUptoCardSaid : Prop := Claim7.holds Tryd.pinned (.plain (OpenSpec.upto showTextsSpec)) showTextsUptoCard

/-- THE SECOND FORM's CARD OF 'quilllaw05.ShowApart'. -/
def showApartUptoCard : Claim7 := { stood := { row := showApartUptoRow, standIns := [], harness := (true, "c0ff2f7ff475ffd4696645504d6ab011c48e2abce7aae1f55201ece2fa155886"), looks := false }, kinds := [], alts := [], laidByText := true, laidKinds := [.data], laidTests := true, laidLooks := .later }
def ShowApartUptoCardSaid : Prop := Claim7.holds Tryd.pinned (.plain (OpenSpec.upto showApartSpec)) showApartUptoCard

/-- THE SECOND FORM's CARD OF 'quilllaw05.ShowTurns'. -/
def showTurnsUptoCard : Claim7 := { stood := { row := showTurnsUptoRow, standIns := [], harness := (true, "c0ff2f7ff475ffd4696645504d6ab011c48e2abce7aae1f55201ece2fa155886"), looks := false }, kinds := [], alts := [], laidByText := true, laidKinds := [.data], laidTests := true, laidLooks := .later }
def ShowTurnsUptoCardSaid : Prop := Claim7.holds Tryd.pinned (.plain (OpenSpec.upto showTurnsSpec)) showTurnsUptoCard

/-- THE SECOND FORM's CARD OF 'quilllaw05.ShowSigns'. -/
def showSignsUptoCard : Claim7 := { stood := { row := showSignsUptoRow, standIns := [], harness := (true, "c0ff2f7ff475ffd4696645504d6ab011c48e2abce7aae1f55201ece2fa155886"), looks := false }, kinds := [], alts := [], laidByText := true, laidKinds := [.data], laidTests := true, laidLooks := .later }
def ShowSignsUptoCardSaid : Prop := Claim7.holds Tryd.pinned (.plain (OpenSpec.upto showSignsSpec)) showSignsUptoCard
end Rows
end Go.Proofs.YtdkdgbiagjflgaaDoor
