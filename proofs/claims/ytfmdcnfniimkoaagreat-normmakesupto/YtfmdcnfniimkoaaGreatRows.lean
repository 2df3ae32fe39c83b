/-
  NARROWER THAN 'FOR EVERY INPUT', by the rows' own cells (each row's printed sentence says how): NormIs: loops · NormMakes: loops · NormKeeps: loops.
  DERIVED. THE GIVEN ROWS OF THIS SEAT. 4 by the template 'for every input the law returns true; each argument reads behind the call as it read before'; 0 by the template 'total and deterministic' (their statements: YtfmdcnfniimkoaaGreatTotals.lean).
  GIVEN WITH THE SEED: the statements are not yours to turn. If you find one false, say at which input.
  Laid BY PROGRAM, IN A SANDBOX (cutbox-rows.mjs): the forced cells as the released guide's own fill.sh prints them over the translation bcb446b071136a2a… (all of the seat's roots in one cut). By AI agents, Wed Nov 11 2026. No macro, syntax, notation, axiom, sorry.
-/
import Derived.Test.YtfmdcnfniimkoaaGreatChecked
import GoSem.Claim
import GoSem.ClaimJoined
import GoSem.ClaimMapViews
import Derived.JoinedTies
import Derived.KernelRfl
namespace Go.Proofs.YtfmdcnfniimkoaaGreat
/- THE CELL 'sum', in the pinned program and in every row, IS THE sha256 OF THE DUMP (.gsa) THAT YtfmdcnfniimkoaaGreatProg.lean LOADS. Nothing in Lean hashes anything: it is a label: what it is worth is what the hold of that sum in a sandbox is worth. -/
noncomputable def Tryz.pinned : Pinned := { name := "ytfmdcnfniimkoaagreat", sum := "bcb446b071136a2a4fa3fb44ab82b735b6f0325df631f33c8119c032f88e313a", checked := Tryz.checked }
namespace Rows
def none {H : Type} : Left H := { results := [], args := [] }

/-- 'quilllaw08.NormIs': WHATEVER THE INPUT: true; the input reads as it did. -/
def normIsSpec : ChangeSpec := { name := "normIs", fn := fun _ => fun
  | [d] => { results := [.lit (.bool true)], args := [d] }
  | _ => none }
def normIsRow : OpenClaim := { program := "ytfmdcnfniimkoaagreat", sum := "bcb446b071136a2a4fa3fb44ab82b735b6f0325df631f33c8119c032f88e313a", func := "quill/quilllaw08.NormIs", spec := "normIs", inPlace := ["internal/bytealg.IndexByteString", "internal/abi.NoEscape"], unfollowed := true, recurses := true, loops := true, apart := false }
def NormIsSaid : Prop := normIsRow.holds Tryz.pinned (OpenSpec.ofChange normIsSpec)

/-- ITS FALSE NEIGHBOUR: 'it returns false'. Refute it at one input. -/
def normIsWrong : ChangeSpec := { name := "normIs", fn := fun _ => fun
  | [d] => { results := [.lit (.bool false)], args := [d] }
  | _ => none }
def NormIsWrongFalsely : Prop := normIsRow.holds Tryz.pinned (OpenSpec.ofChange normIsWrong)

/-- 'quilllaw08.NormMakes': WHATEVER THE INPUT: true; the input reads as it did. -/
def normMakesSpec : ChangeSpec := { name := "normMakes", fn := fun _ => fun
  | [d1, d2] => { results := [.lit (.bool true)], args := [d1, d2] }
  | _ => none }
def normMakesRow : OpenClaim := { program := "ytfmdcnfniimkoaagreat", sum := "bcb446b071136a2a4fa3fb44ab82b735b6f0325df631f33c8119c032f88e313a", func := "quill/quilllaw08.NormMakes", spec := "normMakes", inPlace := ["internal/bytealg.IndexByteString", "internal/abi.NoEscape"], unfollowed := true, recurses := true, loops := true, apart := false }
def NormMakesSaid : Prop := normMakesRow.holds Tryz.pinned (OpenSpec.ofChange normMakesSpec)

/-- ITS FALSE NEIGHBOUR: 'it returns false'. Refute it at one input. -/
def normMakesWrong : ChangeSpec := { name := "normMakes", fn := fun _ => fun
  | [d1, d2] => { results := [.lit (.bool false)], args := [d1, d2] }
  | _ => none }
def NormMakesWrongFalsely : Prop := normMakesRow.holds Tryz.pinned (OpenSpec.ofChange normMakesWrong)

/-- 'quilllaw08.NormKeeps': WHATEVER THE INPUT: true; the input reads as it did. -/
def normKeepsSpec : ChangeSpec := { name := "normKeeps", fn := fun _ => fun
  | [d] => { results := [.lit (.bool true)], args := [d] }
  | _ => none }
def normKeepsRow : OpenClaim := { program := "ytfmdcnfniimkoaagreat", sum := "bcb446b071136a2a4fa3fb44ab82b735b6f0325df631f33c8119c032f88e313a", func := "quill/quilllaw08.NormKeeps", spec := "normKeeps", inPlace := ["internal/bytealg.IndexByteString", "internal/abi.NoEscape"], unfollowed := true, recurses := true, loops := true, apart := false }
def NormKeepsSaid : Prop := normKeepsRow.holds Tryz.pinned (OpenSpec.ofChange normKeepsSpec)

/-- ITS FALSE NEIGHBOUR: 'it returns false'. Refute it at one input. -/
def normKeepsWrong : ChangeSpec := { name := "normKeeps", fn := fun _ => fun
  | [d] => { results := [.lit (.bool false)], args := [d] }
  | _ => none }
def NormKeepsWrongFalsely : Prop := normKeepsRow.holds Tryz.pinned (OpenSpec.ofChange normKeepsWrong)

/-- 'quilllaw08.NormWords': WHATEVER THE INPUT: true; the input reads as it did. -/
def normWordsSpec : ChangeSpec := { name := "normWords", fn := fun _ => fun
  | [d1, d2] => { results := [.lit (.bool true)], args := [d1, d2] }
  | _ => none }
def normWordsRow : OpenClaim := { program := "ytfmdcnfniimkoaagreat", sum := "bcb446b071136a2a4fa3fb44ab82b735b6f0325df631f33c8119c032f88e313a", func := "quill/quilllaw08.NormWords", spec := "normWords", inPlace := ["internal/bytealg.IndexByteString", "internal/abi.NoEscape"], unfollowed := true, recurses := true, apart := false }
def NormWordsSaid : Prop := normWordsRow.holds Tryz.pinned (OpenSpec.ofChange normWordsSpec)

/-- ITS FALSE NEIGHBOUR: 'it returns false'. Refute it at one input. -/
def normWordsWrong : ChangeSpec := { name := "normWords", fn := fun _ => fun
  | [d1, d2] => { results := [.lit (.bool false)], args := [d1, d2] }
  | _ => none }
def NormWordsWrongFalsely : Prop := normWordsRow.holds Tryz.pinned (OpenSpec.ofChange normWordsWrong)

/- THE SECOND FORM. 'bulk': how many values and letters a reading holds, each counted each time it is reached (what is shared counts as often as it is met; a slice's spare places count too). A statement '..UptoSaid' is the law's where the arguments, and the package variables that the reading takes, are together of bulk at most 1048576: NARROWER than '..Said'. Prove '..Said' where nothing that the law and all that it calls make is longer than what came in: it says more and counts as full. Else prove '..UptoSaid'. A law counts once. -/
mutual
def uptoBulk {H : Type} : DataW H → Nat
  | .lit (.string bytes) => bytes.length + 1
  | .lit _ => 1
  | .nil => 1
  | .ptr d => uptoBulk d + 1
  | .slice elems spare => uptoBulkAll elems + uptoBulkAll spare + 1
  | .agg parts => uptoBulkAll parts + 1
  | .iface _ d => uptoBulk d + 1
  | .map entries => uptoBulkEntries entries + 1
  | .held _ => 1
def uptoBulkAll {H : Type} : List (DataW H) → Nat
  | [] => 0
  | d :: r => uptoBulk d + uptoBulkAll r
def uptoBulkEntries {H : Type} : List (Lit × DataW H) → Nat
  | [] => 0
  | x :: r => uptoBulkEntry x + uptoBulkEntries r
def uptoBulkEntry {H : Type} : Lit × DataW H → Nat
  | (.string bytes, d) => bytes.length + uptoBulk d + 1
  | (_, d) => uptoBulk d + 1
 end
def uptoSmall : (H : Type) → List (DataW H) → Bool := fun _ ds => decide (uptoBulkAll ds ≤ 1048576)
def OpenSpec.upto (s : _root_.Go.ChangeSpec) : _root_.Go.OpenSpec := { _root_.Go.OpenSpec.ofChange s with cond := some uptoSmall }

/-- 'quilllaw08.NormIs', WHERE WHAT IT READS IS OF BULK AT MOST 1048576: true; the input reads as it did. -/
def normIsUptoRow : OpenClaim := { program := "ytfmdcnfniimkoaagreat", sum := "bcb446b071136a2a4fa3fb44ab82b735b6f0325df631f33c8119c032f88e313a", func := "quill/quilllaw08.NormIs", spec := "normIs", inPlace := ["internal/bytealg.IndexByteString", "internal/abi.NoEscape"], unfollowed := true, recurses := true, loops := true, apart := false, narrowed := true }
def NormIsUptoSaid : Prop := normIsUptoRow.holds Tryz.pinned (OpenSpec.upto normIsSpec)

/-- 'quilllaw08.NormMakes', WHERE WHAT IT READS IS OF BULK AT MOST 1048576: true; the input reads as it did. -/
def normMakesUptoRow : OpenClaim := { program := "ytfmdcnfniimkoaagreat", sum := "bcb446b071136a2a4fa3fb44ab82b735b6f0325df631f33c8119c032f88e313a", func := "quill/quilllaw08.NormMakes", spec := "normMakes", inPlace := ["internal/bytealg.IndexByteString", "internal/abi.NoEscape"], unfollowed := true, recurses := true, loops := true, apart := false, narrowed := true }
def NormMakesUptoSaid : Prop := normMakesUptoRow.holds Tryz.pinned (OpenSpec.upto normMakesSpec)

/-- 'quilllaw08.NormKeeps', WHERE WHAT IT READS IS OF BULK AT MOST 1048576: true; the input reads as it did. -/
def normKeepsUptoRow : OpenClaim := { program := "ytfmdcnfniimkoaagreat", sum := "bcb446b071136a2a4fa3fb44ab82b735b6f0325df631f33c8119c032f88e313a", func := "quill/quilllaw08.NormKeeps", spec := "normKeeps", inPlace := ["internal/bytealg.IndexByteString", "internal/abi.NoEscape"], unfollowed := true, recurses := true, loops := true, apart := false, narrowed := true }
def NormKeepsUptoSaid : Prop := normKeepsUptoRow.holds Tryz.pinned (OpenSpec.upto normKeepsSpec)

/-- 'quilllaw08.NormWords', WHERE WHAT IT READS IS OF BULK AT MOST 1048576: true; the input reads as it did. -/
def normWordsUptoRow : OpenClaim := { program := "ytfmdcnfniimkoaagreat", sum := "bcb446b071136a2a4fa3fb44ab82b735b6f0325df631f33c8119c032f88e313a", func := "quill/quilllaw08.NormWords", spec := "normWords", inPlace := ["internal/bytealg.IndexByteString", "internal/abi.NoEscape"], unfollowed := true, recurses := true, apart := false, narrowed := true }
def NormWordsUptoSaid : Prop := normWordsUptoRow.holds Tryz.pinned (OpenSpec.upto normWordsSpec)

end Rows
end Go.Proofs.YtfmdcnfniimkoaaGreat
