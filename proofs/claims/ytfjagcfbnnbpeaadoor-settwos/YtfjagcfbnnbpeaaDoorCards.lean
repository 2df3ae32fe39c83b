/-
  DERIVED. GIVEN WITH THE SEED: THE CARDS: each row of YtfjagcfbnnbpeaaDoorRows.lean that lists a variable, with what it lists TIED to the program's text (the seventh form; the later family's looks); each row that meets fmt, with fmt's text TOLD by the authors' own Lean function (tested against real Go, not proved from fmt's source: count such statements apart). THE CARD IS WHAT COUNTS. Prove the row's statement (the work); the ties are given (YtfjagcfbnnbpeaaDoorTie.lean); close each card by the builder's one call (the guide's Derived/Test/ToyasCard.lean, 'card_holds'). Laid BY PROGRAM, IN A SANDBOX (cutbox-door.mjs). By AI agents, Wed Nov 11 2026. No macro, syntax, notation, axiom, sorry.
-/
import Derived.Test.YtfjagcfbnnbpeaaDoorRows
import GoSem.ClaimSeven
namespace Go.Proofs.YtfjagcfbnnbpeaaDoor
namespace Rows

/-- THE TIED CARD OF 'quilllaw02.SetMakes'. -/
def setMakesCard : Claim7 := { stood := { row := setMakesRow, standIns := [], harness := (true, "1756a4011c3a9e92cd0760dd8767c4d4bd1acc976b6b3acf88c6af7d81ab8e08"), looks := false }, kinds := [], alts := [], laidByText := true, laidKinds := [.data], laidTests := true, laidLooks := .later }
def SetMakesCardSaid : Prop := Claim7.holds Tryd.pinned (.plain (OpenSpec.ofChange setMakesSpec)) setMakesCard

/-- THE TIED CARD OF 'quilllaw02.SetTwos'. -/
def setTwosCard : Claim7 := { stood := { row := setTwosRow, standIns := [], harness := (true, "1756a4011c3a9e92cd0760dd8767c4d4bd1acc976b6b3acf88c6af7d81ab8e08"), looks := false }, kinds := [], alts := [], laidByText := true, laidKinds := [.data], laidTests := true, laidLooks := .later }
def SetTwosCardSaid : Prop := Claim7.holds Tryd.pinned (.plain (OpenSpec.ofChange setTwosSpec)) setTwosCard

/-- THE TIED CARD OF 'quilllaw02.SetMany'. -/
def setManyCard : Claim7 := { stood := { row := setManyRow, standIns := [], harness := (true, "1756a4011c3a9e92cd0760dd8767c4d4bd1acc976b6b3acf88c6af7d81ab8e08"), looks := false }, kinds := [], alts := [], laidByText := true, laidKinds := [.data], laidTests := true, laidLooks := .later }
def SetManyCardSaid : Prop := Claim7.holds Tryd.pinned (.plain (OpenSpec.ofChange setManySpec)) setManyCard

/-- THE TIED CARD OF 'quilllaw02.SetTexts'. -/
def setTextsCard : Claim7 := { stood := { row := setTextsRow, standIns := [], harness := (true, "1756a4011c3a9e92cd0760dd8767c4d4bd1acc976b6b3acf88c6af7d81ab8e08"), looks := false }, kinds := [], alts := [], laidByText := true, laidKinds := [.data], laidTests := true, laidLooks := .later }
def SetTextsCardSaid : Prop := Claim7.holds Tryd.pinned (.plain (OpenSpec.ofChange setTextsSpec)) setTextsCard

/-- THE TIED CARD OF 'quilllaw02.SetBack'. -/
def setBackCard : Claim7 := { stood := { row := setBackRow, standIns := [], harness := (true, "1756a4011c3a9e92cd0760dd8767c4d4bd1acc976b6b3acf88c6af7d81ab8e08"), looks := false }, kinds := [], alts := [], laidByText := true, laidKinds := [.data], laidTests := true, laidLooks := .later }
def SetBackCardSaid : Prop := Claim7.holds Tryd.pinned (.plain (OpenSpec.ofChange setBackSpec)) setBackCard

/-- THE SECOND FORM's CARD OF 'quilllaw02.SetMakes'. -/
def setMakesUptoCard : Claim7 := { stood := { row := setMakesUptoRow, standIns := [], harness := (true, "1756a4011c3a9e92cd0760dd8767c4d4bd1acc976b6b3acf88c6af7d81ab8e08"), looks := false }, kinds := [], alts := [], laidByText := true, laidKinds := [.data], laidTests := true, laidLooks := .later }
def SetMakesUptoCardSaid : Prop := Claim7.holds Tryd.pinned (.plain (OpenSpec.upto setMakesSpec)) setMakesUptoCard

/-- THE SECOND FORM's CARD OF 'quilllaw02.SetTwos'. -/
def setTwosUptoCard : Claim7 := { stood := { row := setTwosUptoRow, standIns := [], harness := (true, "1756a4011c3a9e92cd0760dd8767c4d4bd1acc976b6b3acf88c6af7d81ab8e08"), looks := false }, kinds := [], alts := [], laidByText := true, laidKinds := [.data], laidTests := true, laidLooks := .later }
def SetTwosUptoCardSaid : Prop := Claim7.holds Tryd.pinned (.plain (OpenSpec.upto setTwosSpec)) setTwosUptoCard

/-- THE SECOND FORM's CARD OF 'quilllaw02.SetMany'. -/
def setManyUptoCard : Claim7 := { stood := { row := setManyUptoRow, standIns := [], harness := (true, "1756a4011c3a9e92cd0760dd8767c4d4bd1acc976b6b3acf88c6af7d81ab8e08"), looks := false }, kinds := [], alts := [], laidByText := true, laidKinds := [.data], laidTests := true, laidLooks := .later }
def SetManyUptoCardSaid : Prop := Claim7.holds Tryd.pinned (.plain (OpenSpec.upto setManySpec)) setManyUptoCard

/-- THE SECOND FORM's CARD OF 'quilllaw02.SetTexts'. -/
def setTextsUptoCard : Claim7 := { stood := { row := setTextsUptoRow, standIns := [], harness := (true, "1756a4011c3a9e92cd0760dd8767c4d4bd1acc976b6b3acf88c6af7d81ab8e08"), looks := false }, kinds := [], alts := [], laidByText := true, laidKinds := [.data], laidTests := true, laidLooks := .later }
def SetTextsUptoCardSaid : Prop := Claim7.holds Tryd.pinned (.plain (OpenSpec.upto setTextsSpec)) setTextsUptoCard

/-- THE SECOND FORM's CARD OF 'quilllaw02.SetBack'. -/
def setBackUptoCard : Claim7 := { stood := { row := setBackUptoRow, standIns := [], harness := (true, "1756a4011c3a9e92cd0760dd8767c4d4bd1acc976b6b3acf88c6af7d81ab8e08"), looks := false }, kinds := [], alts := [], laidByText := true, laidKinds := [.data], laidTests := true, laidLooks := .later }
def SetBackUptoCardSaid : Prop := Claim7.holds Tryd.pinned (.plain (OpenSpec.upto setBackSpec)) setBackUptoCard
end Rows
end Go.Proofs.YtfjagcfbnnbpeaaDoor
