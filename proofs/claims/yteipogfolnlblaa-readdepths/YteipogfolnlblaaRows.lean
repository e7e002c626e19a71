/-
  No cell of these rows narrows 'for every input' (looked for: loops, veiled, ifaces, maps, wideKeys, modest, calm, conditions, laid).
  DERIVED. THE GIVEN ROWS OF THIS SEAT. 7 by the template 'for every input the law returns true; each argument reads behind the call as it read before'; 0 by the template 'total and deterministic' (their statements: YteipogfolnlblaaTotals.lean).
  GIVEN WITH THE SEED: the statements are not yours to turn. If you find one false, say at which input.
  Laid BY PROGRAM, IN A SANDBOX (cutbox-rows.mjs): the forced cells as the released guide's own fill.sh prints them over the translation f43bee8159bf8e78… (all of the seat's roots in one cut). By AI agents, Wed Nov 11 2026. No macro, syntax, notation, axiom, sorry.
-/
import Derived.Test.YteipogfolnlblaaChecked
import GoSem.Claim
import GoSem.ClaimJoined
import GoSem.ClaimMapViews
import Derived.JoinedTies
import Derived.KernelRfl
namespace Go.Proofs.Yteipogfolnlblaa
/- THE CELL 'sum', in the pinned program and in every row, IS THE sha256 OF THE DUMP (.gsa) THAT YteipogfolnlblaaProg.lean LOADS. Nothing in Lean hashes anything: it is a label: what it is worth is what the hold of that sum in a sandbox is worth. -/
noncomputable def Try.pinned : Pinned := { name := "yteipogfolnlblaa", sum := "f43bee8159bf8e786d11612a8357ff0f4c6d1d78bb1699ec727ea2762b4d06ac", checked := Try.checked }
namespace Rows
def none {H : Type} : Left H := { results := [], args := [] }

/-- 'tandemlaw05.ReadAlls': WHATEVER THE INPUT: true; the input reads as it did. -/
def readAllsSpec : ChangeSpec := { name := "readAlls", fn := fun _ => fun
  | [d] => { results := [.lit (.bool true)], args := [d] }
  | _ => none }
def readAllsRow : OpenClaim := { program := "yteipogfolnlblaa", sum := "f43bee8159bf8e786d11612a8357ff0f4c6d1d78bb1699ec727ea2762b4d06ac", func := "tandem/tandemlaw05.ReadAlls", spec := "readAlls", inPlace := ["internal/bytealg.IndexByteString"], recurses := true, apart := false }
def ReadAllsSaid : Prop := readAllsRow.holds Try.pinned (OpenSpec.ofChange readAllsSpec)

/-- ITS FALSE NEIGHBOUR: 'it returns false'. Refute it at one input. -/
def readAllsWrong : ChangeSpec := { name := "readAlls", fn := fun _ => fun
  | [d] => { results := [.lit (.bool false)], args := [d] }
  | _ => none }
def ReadAllsWrongFalsely : Prop := readAllsRow.holds Try.pinned (OpenSpec.ofChange readAllsWrong)

/-- 'tandemlaw05.ReadOnes': WHATEVER THE INPUT: true; the input reads as it did. -/
def readOnesSpec : ChangeSpec := { name := "readOnes", fn := fun _ => fun
  | [d1, d2] => { results := [.lit (.bool true)], args := [d1, d2] }
  | _ => none }
def readOnesRow : OpenClaim := { program := "yteipogfolnlblaa", sum := "f43bee8159bf8e786d11612a8357ff0f4c6d1d78bb1699ec727ea2762b4d06ac", func := "tandem/tandemlaw05.ReadOnes", spec := "readOnes", inPlace := ["internal/bytealg.IndexByteString"], recurses := true, apart := false }
def ReadOnesSaid : Prop := readOnesRow.holds Try.pinned (OpenSpec.ofChange readOnesSpec)

/-- ITS FALSE NEIGHBOUR: 'it returns false'. Refute it at one input. -/
def readOnesWrong : ChangeSpec := { name := "readOnes", fn := fun _ => fun
  | [d1, d2] => { results := [.lit (.bool false)], args := [d1, d2] }
  | _ => none }
def ReadOnesWrongFalsely : Prop := readOnesRow.holds Try.pinned (OpenSpec.ofChange readOnesWrong)

/-- 'tandemlaw05.ReadChains': WHATEVER THE INPUT: true; the input reads as it did. -/
def readChainsSpec : ChangeSpec := { name := "readChains", fn := fun _ => fun
  | [d] => { results := [.lit (.bool true)], args := [d] }
  | _ => none }
def readChainsRow : OpenClaim := { program := "yteipogfolnlblaa", sum := "f43bee8159bf8e786d11612a8357ff0f4c6d1d78bb1699ec727ea2762b4d06ac", func := "tandem/tandemlaw05.ReadChains", spec := "readChains", inPlace := ["internal/bytealg.IndexByteString"], recurses := true, apart := false }
def ReadChainsSaid : Prop := readChainsRow.holds Try.pinned (OpenSpec.ofChange readChainsSpec)

/-- ITS FALSE NEIGHBOUR: 'it returns false'. Refute it at one input. -/
def readChainsWrong : ChangeSpec := { name := "readChains", fn := fun _ => fun
  | [d] => { results := [.lit (.bool false)], args := [d] }
  | _ => none }
def ReadChainsWrongFalsely : Prop := readChainsRow.holds Try.pinned (OpenSpec.ofChange readChainsWrong)

/-- 'tandemlaw05.ReadBack': WHATEVER THE INPUT: true; the input reads as it did. -/
def readBackSpec : ChangeSpec := { name := "readBack", fn := fun _ => fun
  | [d] => { results := [.lit (.bool true)], args := [d] }
  | _ => none }
def readBackRow : OpenClaim := { program := "yteipogfolnlblaa", sum := "f43bee8159bf8e786d11612a8357ff0f4c6d1d78bb1699ec727ea2762b4d06ac", func := "tandem/tandemlaw05.ReadBack", spec := "readBack", inPlace := ["internal/bytealg.IndexByteString"], recurses := true, apart := false }
def ReadBackSaid : Prop := readBackRow.holds Try.pinned (OpenSpec.ofChange readBackSpec)

/-- ITS FALSE NEIGHBOUR: 'it returns false'. Refute it at one input. -/
def readBackWrong : ChangeSpec := { name := "readBack", fn := fun _ => fun
  | [d] => { results := [.lit (.bool false)], args := [d] }
  | _ => none }
def ReadBackWrongFalsely : Prop := readBackRow.holds Try.pinned (OpenSpec.ofChange readBackWrong)

/-- 'tandemlaw05.ReadBlanks': WHATEVER THE INPUT: true; the input reads as it did. -/
def readBlanksSpec : ChangeSpec := { name := "readBlanks", fn := fun _ => fun
  | [d1, d2] => { results := [.lit (.bool true)], args := [d1, d2] }
  | _ => none }
def readBlanksRow : OpenClaim := { program := "yteipogfolnlblaa", sum := "f43bee8159bf8e786d11612a8357ff0f4c6d1d78bb1699ec727ea2762b4d06ac", func := "tandem/tandemlaw05.ReadBlanks", spec := "readBlanks", inPlace := ["internal/bytealg.IndexByteString"], recurses := true, apart := false }
def ReadBlanksSaid : Prop := readBlanksRow.holds Try.pinned (OpenSpec.ofChange readBlanksSpec)

/-- ITS FALSE NEIGHBOUR: 'it returns false'. Refute it at one input. -/
def readBlanksWrong : ChangeSpec := { name := "readBlanks", fn := fun _ => fun
  | [d1, d2] => { results := [.lit (.bool false)], args := [d1, d2] }
  | _ => none }
def ReadBlanksWrongFalsely : Prop := readBlanksRow.holds Try.pinned (OpenSpec.ofChange readBlanksWrong)

/-- 'tandemlaw05.ReadDepths': WHATEVER THE INPUT: true; the input reads as it did. -/
def readDepthsSpec : ChangeSpec := { name := "readDepths", fn := fun _ => fun
  | [d1, d2] => { results := [.lit (.bool true)], args := [d1, d2] }
  | _ => none }
def readDepthsRow : OpenClaim := { program := "yteipogfolnlblaa", sum := "f43bee8159bf8e786d11612a8357ff0f4c6d1d78bb1699ec727ea2762b4d06ac", func := "tandem/tandemlaw05.ReadDepths", spec := "readDepths", inPlace := ["internal/bytealg.IndexByteString"], recurses := true, apart := false }
def ReadDepthsSaid : Prop := readDepthsRow.holds Try.pinned (OpenSpec.ofChange readDepthsSpec)

/-- ITS FALSE NEIGHBOUR: 'it returns false'. Refute it at one input. -/
def readDepthsWrong : ChangeSpec := { name := "readDepths", fn := fun _ => fun
  | [d1, d2] => { results := [.lit (.bool false)], args := [d1, d2] }
  | _ => none }
def ReadDepthsWrongFalsely : Prop := readDepthsRow.holds Try.pinned (OpenSpec.ofChange readDepthsWrong)

/-- 'tandemlaw05.ReadShorts': WHATEVER THE INPUT: true; the input reads as it did. -/
def readShortsSpec : ChangeSpec := { name := "readShorts", fn := fun _ => fun
  | [d1, d2] => { results := [.lit (.bool true)], args := [d1, d2] }
  | _ => none }
def readShortsRow : OpenClaim := { program := "yteipogfolnlblaa", sum := "f43bee8159bf8e786d11612a8357ff0f4c6d1d78bb1699ec727ea2762b4d06ac", func := "tandem/tandemlaw05.ReadShorts", spec := "readShorts", inPlace := ["internal/bytealg.IndexByteString"], recurses := true, apart := false }
def ReadShortsSaid : Prop := readShortsRow.holds Try.pinned (OpenSpec.ofChange readShortsSpec)

/-- ITS FALSE NEIGHBOUR: 'it returns false'. Refute it at one input. -/
def readShortsWrong : ChangeSpec := { name := "readShorts", fn := fun _ => fun
  | [d1, d2] => { results := [.lit (.bool false)], args := [d1, d2] }
  | _ => none }
def ReadShortsWrongFalsely : Prop := readShortsRow.holds Try.pinned (OpenSpec.ofChange readShortsWrong)

/- THE SECOND FORM. 'bulk': how many values and letters a reading holds, each counted each time it is reached (what is shared counts as often as it is met; a slice's spare places count too). A statement '..UptoSaid' is the law's where the arguments, and the package variables that the reading takes, are together of bulk at most 1048576: NARROWER than '..Said'. Prove '..Said' where nothing that the law and all that it calls make is longer than what came in: it says more and counts as full. Else prove '..UptoSaid'. A law counts once. -/
mutual
def uptoBulk {H : Type} : DataW H → Nat
  | .lit (.string bytes) => bytes.length + 1
  | .lit _ => 1
  | .nil => 1
  | .ptr d => uptoBulk d + 1
  | .slice elems spare => uptoBulkAll elems + uptoBulkAll spare + 1
  | .agg parts => uptoBulkAll parts + 1
  | .iface _ d => uptoBulk d + 1
  | .map entries => uptoBulkEntries entries + 1
  | .held _ => 1
def uptoBulkAll {H : Type} : List (DataW H) → Nat
  | [] => 0
  | d :: r => uptoBulk d + uptoBulkAll r
def uptoBulkEntries {H : Type} : List (Lit × DataW H) → Nat
  | [] => 0
  | x :: r => uptoBulkEntry x + uptoBulkEntries r
def uptoBulkEntry {H : Type} : Lit × DataW H → Nat
  | (.string bytes, d) => bytes.length + uptoBulk d + 1
  | (_, d) => uptoBulk d + 1
 end
def uptoSmall : (H : Type) → List (DataW H) → Bool := fun _ ds => decide (uptoBulkAll ds ≤ 1048576)
def OpenSpec.upto (s : _root_.Go.ChangeSpec) : _root_.Go.OpenSpec := { _root_.Go.OpenSpec.ofChange s with cond := some uptoSmall }

/-- 'tandemlaw05.ReadAlls', WHERE WHAT IT READS IS OF BULK AT MOST 1048576: true; the input reads as it did. -/
def readAllsUptoRow : OpenClaim := { program := "yteipogfolnlblaa", sum := "f43bee8159bf8e786d11612a8357ff0f4c6d1d78bb1699ec727ea2762b4d06ac", func := "tandem/tandemlaw05.ReadAlls", spec := "readAlls", inPlace := ["internal/bytealg.IndexByteString"], recurses := true, apart := false, narrowed := true }
def ReadAllsUptoSaid : Prop := readAllsUptoRow.holds Try.pinned (OpenSpec.upto readAllsSpec)

/-- 'tandemlaw05.ReadOnes', WHERE WHAT IT READS IS OF BULK AT MOST 1048576: true; the input reads as it did. -/
def readOnesUptoRow : OpenClaim := { program := "yteipogfolnlblaa", sum := "f43bee8159bf8e786d11612a8357ff0f4c6d1d78bb1699ec727ea2762b4d06ac", func := "tandem/tandemlaw05.ReadOnes", spec := "readOnes", inPlace := ["internal/bytealg.IndexByteString"], recurses := true, apart := false, narrowed := true }
def ReadOnesUptoSaid : Prop := readOnesUptoRow.holds Try.pinned (OpenSpec.upto readOnesSpec)

/-- 'tandemlaw05.ReadChains', WHERE WHAT IT READS IS OF BULK AT MOST 1048576: true; the input reads as it did. -/
def readChainsUptoRow : OpenClaim := { program := "yteipogfolnlblaa", sum := "f43bee8159bf8e786d11612a8357ff0f4c6d1d78bb1699ec727ea2762b4d06ac", func := "tandem/tandemlaw05.ReadChains", spec := "readChains", inPlace := ["internal/bytealg.IndexByteString"], recurses := true, apart := false, narrowed := true }
def ReadChainsUptoSaid : Prop := readChainsUptoRow.holds Try.pinned (OpenSpec.upto readChainsSpec)

/-- 'tandemlaw05.ReadBack', WHERE WHAT IT READS IS OF BULK AT MOST 1048576: true; the input reads as it did. -/
def readBackUptoRow : OpenClaim := { program := "yteipogfolnlblaa", sum := "f43bee8159bf8e786d11612a8357ff0f4c6d1d78bb1699ec727ea2762b4d06ac", func := "tandem/tandemlaw05.ReadBack", spec := "readBack", inPlace := ["internal/bytealg.IndexByteString"], recurses := true, apart := false, narrowed := true }
def ReadBackUptoSaid : Prop := readBackUptoRow.holds Try.pinned (OpenSpec.upto readBackSpec)

/-- 'tandemlaw05.ReadBlanks', WHERE WHAT IT READS IS OF BULK AT MOST 1048576: true; the input reads as it did. -/
def readBlanksUptoRow : OpenClaim := { program := "yteipogfolnlblaa", sum := "f43bee8159bf8e786d11612a8357ff0f4c6d1d78bb1699ec727ea2762b4d06ac", func := "tandem/tandemlaw05.ReadBlanks", spec := "readBlanks", inPlace := ["internal/bytealg.IndexByteString"], recurses := true, apart := false, narrowed := true }
def ReadBlanksUptoSaid : Prop := readBlanksUptoRow.holds Try.pinned (OpenSpec.upto readBlanksSpec)

/-- 'tandemlaw05.ReadDepths', WHERE WHAT IT READS IS OF BULK AT MOST 1048576: true; the input reads as it did. -/
def readDepthsUptoRow : OpenClaim := { program := "yteipogfolnlblaa", sum := "f43bee8159bf8e786d11612a8357ff0f4c6d1d78bb1699ec727ea2762b4d06ac", func := "tandem/tandemlaw05.ReadDepths", spec := "readDepths", inPlace := ["internal/bytealg.IndexByteString"], recurses := true, apart := false, narrowed := true }
def ReadDepthsUptoSaid : Prop := readDepthsUptoRow.holds Try.pinned (OpenSpec.upto readDepthsSpec)

/-- 'tandemlaw05.ReadShorts', WHERE WHAT IT READS IS OF BULK AT MOST 1048576: true; the input reads as it did. -/
def readShortsUptoRow : OpenClaim := { program := "yteipogfolnlblaa", sum := "f43bee8159bf8e786d11612a8357ff0f4c6d1d78bb1699ec727ea2762b4d06ac", func := "tandem/tandemlaw05.ReadShorts", spec := "readShorts", inPlace := ["internal/bytealg.IndexByteString"], recurses := true, apart := false, narrowed := true }
def ReadShortsUptoSaid : Prop := readShortsUptoRow.holds Try.pinned (OpenSpec.upto readShortsSpec)

end Rows
end Go.Proofs.Yteipogfolnlblaa
