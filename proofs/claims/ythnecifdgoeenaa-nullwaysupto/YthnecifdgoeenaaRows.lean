/-
  NARROWER THAN 'FOR EVERY INPUT', by the rows' own cells (each row's printed sentence says how): NullIs: loops · NullWays: loops · NullTwos: loops.
  DERIVED. THE GIVEN ROWS OF THIS SEAT. 3 by the template 'for every input the law returns true; each argument reads behind the call as it read before'; 0 by the template 'total and deterministic' (their statements: YthnecifdgoeenaaTotals.lean).
  GIVEN WITH THE SEED: the statements are not yours to turn. If you find one false, say at which input.
  Laid BY PROGRAM, IN A SANDBOX (cutbox-rows.mjs): the forced cells as the released guide's own fill.sh prints them over the translation d34f660ca6ee8270… (all of the seat's roots in one cut). By AI agents, Wed Nov 11 2026. No macro, syntax, notation, axiom, sorry.
-/
import Derived.Test.YthnecifdgoeenaaChecked
import GoSem.Claim
import GoSem.ClaimJoined
import GoSem.ClaimMapViews
import Derived.JoinedTies
import Derived.KernelRfl
namespace Go.Proofs.Ythnecifdgoeenaa
/- THE CELL 'sum', in the pinned program and in every row, IS THE sha256 OF THE DUMP (.gsa) THAT YthnecifdgoeenaaProg.lean LOADS. Nothing in Lean hashes anything: it is a label: what it is worth is what the hold of that sum in a sandbox is worth. -/
noncomputable def Try.pinned : Pinned := { name := "ythnecifdgoeenaa", sum := "d34f660ca6ee82700b6335ad221d42ecddf02377b6679d065376299f55dcae2a", checked := Try.checked }
namespace Rows
def none {H : Type} : Left H := { results := [], args := [] }

/-- 'quilllaw07.NullIs': WHATEVER THE INPUT: true; the input reads as it did. -/
def nullIsSpec : ChangeSpec := { name := "nullIs", fn := fun _ => fun
  | [d] => { results := [.lit (.bool true)], args := [d] }
  | _ => none }
def nullIsRow : OpenClaim := { program := "ythnecifdgoeenaa", sum := "d34f660ca6ee82700b6335ad221d42ecddf02377b6679d065376299f55dcae2a", func := "quill/quilllaw07.NullIs", spec := "nullIs", inPlace := ["internal/bytealg.IndexByteString", "internal/abi.NoEscape"], unfollowed := true, recurses := true, loops := true, apart := false }
def NullIsSaid : Prop := nullIsRow.holds Try.pinned (OpenSpec.ofChange nullIsSpec)

/-- ITS FALSE NEIGHBOUR: 'it returns false'. Refute it at one input. -/
def nullIsWrong : ChangeSpec := { name := "nullIs", fn := fun _ => fun
  | [d] => { results := [.lit (.bool false)], args := [d] }
  | _ => none }
def NullIsWrongFalsely : Prop := nullIsRow.holds Try.pinned (OpenSpec.ofChange nullIsWrong)

/-- 'quilllaw07.NullWays': WHATEVER THE INPUT: true; the input reads as it did. -/
def nullWaysSpec : ChangeSpec := { name := "nullWays", fn := fun _ => fun
  | [d] => { results := [.lit (.bool true)], args := [d] }
  | _ => none }
def nullWaysRow : OpenClaim := { program := "ythnecifdgoeenaa", sum := "d34f660ca6ee82700b6335ad221d42ecddf02377b6679d065376299f55dcae2a", func := "quill/quilllaw07.NullWays", spec := "nullWays", inPlace := ["internal/bytealg.IndexByteString", "internal/abi.NoEscape"], unfollowed := true, recurses := true, loops := true, apart := false }
def NullWaysSaid : Prop := nullWaysRow.holds Try.pinned (OpenSpec.ofChange nullWaysSpec)

/-- ITS FALSE NEIGHBOUR: 'it returns false'. Refute it at one input. -/
def nullWaysWrong : ChangeSpec := { name := "nullWays", fn := fun _ => fun
  | [d] => { results := [.lit (.bool false)], args := [d] }
  | _ => none }
def NullWaysWrongFalsely : Prop := nullWaysRow.holds Try.pinned (OpenSpec.ofChange nullWaysWrong)

/-- 'quilllaw07.NullTwos': WHATEVER THE INPUT: true; the input reads as it did. -/
def nullTwosSpec : ChangeSpec := { name := "nullTwos", fn := fun _ => fun
  | [d1, d2] => { results := [.lit (.bool true)], args := [d1, d2] }
  | _ => none }
def nullTwosRow : OpenClaim := { program := "ythnecifdgoeenaa", sum := "d34f660ca6ee82700b6335ad221d42ecddf02377b6679d065376299f55dcae2a", func := "quill/quilllaw07.NullTwos", spec := "nullTwos", inPlace := ["internal/bytealg.IndexByteString", "internal/abi.NoEscape"], unfollowed := true, recurses := true, loops := true, apart := false }
def NullTwosSaid : Prop := nullTwosRow.holds Try.pinned (OpenSpec.ofChange nullTwosSpec)

/-- ITS FALSE NEIGHBOUR: 'it returns false'. Refute it at one input. -/
def nullTwosWrong : ChangeSpec := { name := "nullTwos", fn := fun _ => fun
  | [d1, d2] => { results := [.lit (.bool false)], args := [d1, d2] }
  | _ => none }
def NullTwosWrongFalsely : Prop := nullTwosRow.holds Try.pinned (OpenSpec.ofChange nullTwosWrong)

/- THE SECOND FORM. 'bulk': how many values and letters a reading holds, each counted each time it is reached (what is shared counts as often as it is met; a slice's spare places count too). A statement '..UptoSaid' is the law's where the arguments, and the package variables that the reading takes, are together of bulk at most 1048576: NARROWER than '..Said'. Prove '..Said' where nothing that the law and all that it calls make is longer than what came in: it says more and counts as full. Else prove '..UptoSaid'. A law counts once. -/
mutual
def uptoBulk {H : Type} : DataW H → Nat
  | .lit (.string bytes) => bytes.length + 1
  | .lit _ => 1
  | .nil => 1
  | .ptr d => uptoBulk d + 1
  | .slice elems spare => uptoBulkAll elems + uptoBulkAll spare + 1
  | .agg parts => uptoBulkAll parts + 1
  | .iface _ d => uptoBulk d + 1
  | .map entries => uptoBulkEntries entries + 1
  | .held _ => 1
def uptoBulkAll {H : Type} : List (DataW H) → Nat
  | [] => 0
  | d :: r => uptoBulk d + uptoBulkAll r
def uptoBulkEntries {H : Type} : List (Lit × DataW H) → Nat
  | [] => 0
  | x :: r => uptoBulkEntry x + uptoBulkEntries r
def uptoBulkEntry {H : Type} : Lit × DataW H → Nat
  | (.string bytes, d) => bytes.length + uptoBulk d + 1
  | (_, d) => uptoBulk d + 1
 end
def uptoSmall : (H : Type) → List (DataW H) → Bool := fun _ ds => decide (uptoBulkAll ds ≤ 1048576)
def OpenSpec.upto (s : _root_.Go.ChangeSpec) : _root_.Go.OpenSpec := { _root_.Go.OpenSpec.ofChange s with cond := some uptoSmall }

/-- 'quilllaw07.NullIs', WHERE WHAT IT READS IS OF BULK AT MOST 1048576: true; the input reads as it did. -/
def nullIsUptoRow : OpenClaim := { program := "ythnecifdgoeenaa", sum := "d34f660ca6ee82700b6335ad221d42ecddf02377b6679d065376299f55dcae2a", func := "quill/quilllaw07.NullIs", spec := "nullIs", inPlace := ["internal/bytealg.IndexByteString", "internal/abi.NoEscape"], unfollowed := true, recurses := true, loops := true, apart := false, narrowed := true }
def NullIsUptoSaid : Prop := nullIsUptoRow.holds Try.pinned (OpenSpec.upto nullIsSpec)

/-- 'quilllaw07.NullWays', WHERE WHAT IT READS IS OF BULK AT MOST 1048576: true; the input reads as it did. -/
def nullWaysUptoRow : OpenClaim := { program := "ythnecifdgoeenaa", sum := "d34f660ca6ee82700b6335ad221d42ecddf02377b6679d065376299f55dcae2a", func := "quill/quilllaw07.NullWays", spec := "nullWays", inPlace := ["internal/bytealg.IndexByteString", "internal/abi.NoEscape"], unfollowed := true, recurses := true, loops := true, apart := false, narrowed := true }
def NullWaysUptoSaid : Prop := nullWaysUptoRow.holds Try.pinned (OpenSpec.upto nullWaysSpec)

/-- 'quilllaw07.NullTwos', WHERE WHAT IT READS IS OF BULK AT MOST 1048576: true; the input reads as it did. -/
def nullTwosUptoRow : OpenClaim := { program := "ythnecifdgoeenaa", sum := "d34f660ca6ee82700b6335ad221d42ecddf02377b6679d065376299f55dcae2a", func := "quill/quilllaw07.NullTwos", spec := "nullTwos", inPlace := ["internal/bytealg.IndexByteString", "internal/abi.NoEscape"], unfollowed := true, recurses := true, loops := true, apart := false, narrowed := true }
def NullTwosUptoSaid : Prop := nullTwosUptoRow.holds Try.pinned (OpenSpec.upto nullTwosSpec)

end Rows
end Go.Proofs.Ythnecifdgoeenaa
