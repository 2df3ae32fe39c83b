/-
  DERIVED. GIVEN WITH THE SEED: THE CARDS: each row of YtiegejbbjlhpdaaGreatDoorRows.lean that lists a variable, with what it lists TIED to the program's text (the seventh form; the later family's looks); each row that meets fmt, with fmt's text TOLD by the authors' own Lean function (tested against real Go, not proved from fmt's source: count such statements apart). THE CARD IS WHAT COUNTS. Prove the row's statement (the work); the ties are given (YtiegejbbjlhpdaaGreatDoorTie.lean); close each card by the builder's one call (the guide's Derived/Test/ToyasCard.lean, 'card_holds'). Laid BY PROGRAM, IN A SANDBOX (cutbox-door.mjs). By AI agents, Wed Nov 11 2026. No macro, syntax, notation, axiom, sorry.
-/
import Derived.Test.YtiegejbbjlhpdaaGreatDoorRows
import GoSem.ClaimSeven
namespace Go.Proofs.YtiegejbbjlhpdaaGreatDoor
namespace Rows

/-- THE TIED CARD OF 'quilllaw10.MatchForms'. -/
def matchFormsCard : Claim7 := { stood := { row := matchFormsRow, standIns := [], harness := (true, "7093907d245dcf934c2731bf15fb6c4af2a0a7968acb9863394762ce1b0f150f"), looks := true }, kinds := [], alts := [], laidByText := true, laidKinds := [.data], laidTests := true, laidLooks := .later }
def MatchFormsCardSaid : Prop := Claim7.holds Tryz.pinned (.plain (OpenSpec.ofChange matchFormsSpec)) matchFormsCard

/-- THE SECOND FORM's CARD OF 'quilllaw10.MatchForms'. -/
def matchFormsUptoCard : Claim7 := { stood := { row := matchFormsUptoRow, standIns := [], harness := (true, "7093907d245dcf934c2731bf15fb6c4af2a0a7968acb9863394762ce1b0f150f"), looks := true }, kinds := [], alts := [], laidByText := true, laidKinds := [.data], laidTests := true, laidLooks := .later }
def MatchFormsUptoCardSaid : Prop := Claim7.holds Tryz.pinned (.plain (OpenSpec.upto matchFormsSpec)) matchFormsUptoCard
end Rows
end Go.Proofs.YtiegejbbjlhpdaaGreatDoor
