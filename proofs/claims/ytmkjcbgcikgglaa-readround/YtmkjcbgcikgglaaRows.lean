/-
  No cell of these rows narrows 'for every input' (looked for: loops, veiled, ifaces, maps, wideKeys, modest, calm, conditions, laid).
  DERIVED. THE GIVEN ROWS OF THIS SEAT. 4 by the template 'for every input the law returns true; each argument reads behind the call as it read before'; 0 by the template 'total and deterministic' (their statements: YtmkjcbgcikgglaaTotals.lean).
  GIVEN WITH THE SEED: the statements are not yours to turn. If you find one false, say at which input.
  Laid BY PROGRAM, IN A SANDBOX (cutbox-rows.mjs): the forced cells as the released guide's own fill.sh prints them over the translation 305b25ea410d95a6… (all of the seat's roots in one cut). By AI agents, Wed Nov 11 2026. No macro, syntax, notation, axiom, sorry.
-/
import Derived.Test.YtmkjcbgcikgglaaChecked
import GoSem.Claim
import GoSem.ClaimJoined
import GoSem.ClaimMapViews
import Derived.JoinedTies
import Derived.KernelRfl
namespace Go.Proofs.Ytmkjcbgcikgglaa
/- THE CELL 'sum', in the pinned program and in every row, IS THE sha256 OF THE DUMP (.gsa) THAT YtmkjcbgcikgglaaProg.lean LOADS. Nothing in Lean hashes anything: it is a label: what it is worth is what the hold of that sum in a sandbox is worth. -/
noncomputable def Try.pinned : Pinned := { name := "ytmkjcbgcikgglaa", sum := "305b25ea410d95a6223bfcafb464fbc3a499b5972d393b98cf3886c0a9e62952", checked := Try.checked }
namespace Rows
def none {H : Type} : Left H := { results := [], args := [] }

/-- 'quilllaw06.ReadIs': WHATEVER THE INPUT: true; the input reads as it did. -/
def readIsSpec : ChangeSpec := { name := "readIs", fn := fun _ => fun
  | [d] => { results := [.lit (.bool true)], args := [d] }
  | _ => none }
def readIsRow : OpenClaim := { program := "ytmkjcbgcikgglaa", sum := "305b25ea410d95a6223bfcafb464fbc3a499b5972d393b98cf3886c0a9e62952", func := "quill/quilllaw06.ReadIs", spec := "readIs", inPlace := ["internal/bytealg.IndexByteString", "internal/abi.NoEscape"], unfollowed := true, recurses := true, apart := false }
def ReadIsSaid : Prop := readIsRow.holds Try.pinned (OpenSpec.ofChange readIsSpec)

/-- ITS FALSE NEIGHBOUR: 'it returns false'. Refute it at one input. -/
def readIsWrong : ChangeSpec := { name := "readIs", fn := fun _ => fun
  | [d] => { results := [.lit (.bool false)], args := [d] }
  | _ => none }
def ReadIsWrongFalsely : Prop := readIsRow.holds Try.pinned (OpenSpec.ofChange readIsWrong)

/-- 'quilllaw06.ReadAll': WHATEVER THE INPUT: true; the input reads as it did. -/
def readAllSpec : ChangeSpec := { name := "readAll", fn := fun _ => fun
  | [d] => { results := [.lit (.bool true)], args := [d] }
  | _ => none }
def readAllRow : OpenClaim := { program := "ytmkjcbgcikgglaa", sum := "305b25ea410d95a6223bfcafb464fbc3a499b5972d393b98cf3886c0a9e62952", func := "quill/quilllaw06.ReadAll", spec := "readAll", inPlace := ["internal/bytealg.IndexByteString", "internal/abi.NoEscape"], unfollowed := true, recurses := true, apart := false }
def ReadAllSaid : Prop := readAllRow.holds Try.pinned (OpenSpec.ofChange readAllSpec)

/-- ITS FALSE NEIGHBOUR: 'it returns false'. Refute it at one input. -/
def readAllWrong : ChangeSpec := { name := "readAll", fn := fun _ => fun
  | [d] => { results := [.lit (.bool false)], args := [d] }
  | _ => none }
def ReadAllWrongFalsely : Prop := readAllRow.holds Try.pinned (OpenSpec.ofChange readAllWrong)

/-- 'quilllaw06.ReadMost': WHATEVER THE INPUT: true; the input reads as it did. -/
def readMostSpec : ChangeSpec := { name := "readMost", fn := fun _ => fun
  | [d1, d2] => { results := [.lit (.bool true)], args := [d1, d2] }
  | _ => none }
def readMostRow : OpenClaim := { program := "ytmkjcbgcikgglaa", sum := "305b25ea410d95a6223bfcafb464fbc3a499b5972d393b98cf3886c0a9e62952", func := "quill/quilllaw06.ReadMost", spec := "readMost", inPlace := ["internal/bytealg.IndexByteString", "internal/abi.NoEscape"], unfollowed := true, recurses := true, apart := false }
def ReadMostSaid : Prop := readMostRow.holds Try.pinned (OpenSpec.ofChange readMostSpec)

/-- ITS FALSE NEIGHBOUR: 'it returns false'. Refute it at one input. -/
def readMostWrong : ChangeSpec := { name := "readMost", fn := fun _ => fun
  | [d1, d2] => { results := [.lit (.bool false)], args := [d1, d2] }
  | _ => none }
def ReadMostWrongFalsely : Prop := readMostRow.holds Try.pinned (OpenSpec.ofChange readMostWrong)

/-- 'quilllaw06.ReadRound': WHATEVER THE INPUT: true; the input reads as it did. -/
def readRoundSpec : ChangeSpec := { name := "readRound", fn := fun _ => fun
  | [d1, d2] => { results := [.lit (.bool true)], args := [d1, d2] }
  | _ => none }
def readRoundRow : OpenClaim := { program := "ytmkjcbgcikgglaa", sum := "305b25ea410d95a6223bfcafb464fbc3a499b5972d393b98cf3886c0a9e62952", func := "quill/quilllaw06.ReadRound", spec := "readRound", inPlace := ["internal/bytealg.IndexByteString", "internal/abi.NoEscape"], unfollowed := true, recurses := true, apart := false }
def ReadRoundSaid : Prop := readRoundRow.holds Try.pinned (OpenSpec.ofChange readRoundSpec)

/-- ITS FALSE NEIGHBOUR: 'it returns false'. Refute it at one input. -/
def readRoundWrong : ChangeSpec := { name := "readRound", fn := fun _ => fun
  | [d1, d2] => { results := [.lit (.bool false)], args := [d1, d2] }
  | _ => none }
def ReadRoundWrongFalsely : Prop := readRoundRow.holds Try.pinned (OpenSpec.ofChange readRoundWrong)

/- THE SECOND FORM. 'bulk': how many values and letters a reading holds, each counted each time it is reached (what is shared counts as often as it is met; a slice's spare places count too). A statement '..UptoSaid' is the law's where the arguments, and the package variables that the reading takes, are together of bulk at most 1048576: NARROWER than '..Said'. Prove '..Said' where nothing that the law and all that it calls make is longer than what came in: it says more and counts as full. Else prove '..UptoSaid'. A law counts once. -/
mutual
def uptoBulk {H : Type} : DataW H → Nat
  | .lit (.string bytes) => bytes.length + 1
  | .lit _ => 1
  | .nil => 1
  | .ptr d => uptoBulk d + 1
  | .slice elems spare => uptoBulkAll elems + uptoBulkAll spare + 1
  | .agg parts => uptoBulkAll parts + 1
  | .iface _ d => uptoBulk d + 1
  | .map entries => uptoBulkEntries entries + 1
  | .held _ => 1
def uptoBulkAll {H : Type} : List (DataW H) → Nat
  | [] => 0
  | d :: r => uptoBulk d + uptoBulkAll r
def uptoBulkEntries {H : Type} : List (Lit × DataW H) → Nat
  | [] => 0
  | x :: r => uptoBulkEntry x + uptoBulkEntries r
def uptoBulkEntry {H : Type} : Lit × DataW H → Nat
  | (.string bytes, d) => bytes.length + uptoBulk d + 1
  | (_, d) => uptoBulk d + 1
 end
def uptoSmall : (H : Type) → List (DataW H) → Bool := fun _ ds => decide (uptoBulkAll ds ≤ 1048576)
def OpenSpec.upto (s : _root_.Go.ChangeSpec) : _root_.Go.OpenSpec := { _root_.Go.OpenSpec.ofChange s with cond := some uptoSmall }

/-- 'quilllaw06.ReadIs', WHERE WHAT IT READS IS OF BULK AT MOST 1048576: true; the input reads as it did. -/
def readIsUptoRow : OpenClaim := { program := "ytmkjcbgcikgglaa", sum := "305b25ea410d95a6223bfcafb464fbc3a499b5972d393b98cf3886c0a9e62952", func := "quill/quilllaw06.ReadIs", spec := "readIs", inPlace := ["internal/bytealg.IndexByteString", "internal/abi.NoEscape"], unfollowed := true, recurses := true, apart := false, narrowed := true }
def ReadIsUptoSaid : Prop := readIsUptoRow.holds Try.pinned (OpenSpec.upto readIsSpec)

/-- 'quilllaw06.ReadAll', WHERE WHAT IT READS IS OF BULK AT MOST 1048576: true; the input reads as it did. -/
def readAllUptoRow : OpenClaim := { program := "ytmkjcbgcikgglaa", sum := "305b25ea410d95a6223bfcafb464fbc3a499b5972d393b98cf3886c0a9e62952", func := "quill/quilllaw06.ReadAll", spec := "readAll", inPlace := ["internal/bytealg.IndexByteString", "internal/abi.NoEscape"], unfollowed := true, recurses := true, apart := false, narrowed := true }
def ReadAllUptoSaid : Prop := readAllUptoRow.holds Try.pinned (OpenSpec.upto readAllSpec)

/-- 'quilllaw06.ReadMost', WHERE WHAT IT READS IS OF BULK AT MOST 1048576: true; the input reads as it did. -/
def readMostUptoRow : OpenClaim := { program := "ytmkjcbgcikgglaa", sum := "305b25ea410d95a6223bfcafb464fbc3a499b5972d393b98cf3886c0a9e62952", func := "quill/quilllaw06.ReadMost", spec := "readMost", inPlace := ["internal/bytealg.IndexByteString", "internal/abi.NoEscape"], unfollowed := true, recurses := true, apart := false, narrowed := true }
def ReadMostUptoSaid : Prop := readMostUptoRow.holds Try.pinned (OpenSpec.upto readMostSpec)

/-- 'quilllaw06.ReadRound', WHERE WHAT IT READS IS OF BULK AT MOST 1048576: true; the input reads as it did. -/
def readRoundUptoRow : OpenClaim := { program := "ytmkjcbgcikgglaa", sum := "305b25ea410d95a6223bfcafb464fbc3a499b5972d393b98cf3886c0a9e62952", func := "quill/quilllaw06.ReadRound", spec := "readRound", inPlace := ["internal/bytealg.IndexByteString", "internal/abi.NoEscape"], unfollowed := true, recurses := true, apart := false, narrowed := true }
def ReadRoundUptoSaid : Prop := readRoundUptoRow.holds Try.pinned (OpenSpec.upto readRoundSpec)

end Rows
end Go.Proofs.Ytmkjcbgcikgglaa
