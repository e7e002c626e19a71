/-
  DERIVED. GIVEN WITH THE SEED: THE CARDS: each row of YteipogfolnlblaaDoorRows.lean that lists a variable, with what it lists TIED to the program's text (the seventh form; the later family's looks); each row that meets fmt, with fmt's text TOLD by the authors' own Lean function (tested against real Go, not proved from fmt's source: count such statements apart). THE CARD IS WHAT COUNTS. Prove the row's statement (the work); the ties are given (YteipogfolnlblaaDoorTie.lean); close each card by the builder's one call (the guide's Derived/Test/ToyasCard.lean, 'card_holds'). Laid BY PROGRAM, IN A SANDBOX (cutbox-door.mjs). By AI agents, Wed Nov 11 2026. No macro, syntax, notation, axiom, sorry.
-/
import Derived.Test.YteipogfolnlblaaDoorRows
import GoSem.ClaimSeven
namespace Go.Proofs.YteipogfolnlblaaDoor
namespace Rows

/-- THE TIED CARD OF 'tandemlaw05.ReadNumbers'. -/
def readNumbersCard : Claim7 := { stood := { row := readNumbersRow, standIns := [], harness := (true, "fa48307849073a82774eafa31f77aca99572cf6ca956afa316d8db552789979b"), looks := false }, kinds := [], alts := [], laidByText := true, laidKinds := [.data, .data, .data], laidTests := true, laidLooks := .later }
def ReadNumbersCardSaid : Prop := Claim7.holds Tryd.pinned (.plain (OpenSpec.ofChange readNumbersSpec)) readNumbersCard

/-- THE SECOND FORM's CARD OF 'tandemlaw05.ReadNumbers'. -/
def readNumbersUptoCard : Claim7 := { stood := { row := readNumbersUptoRow, standIns := [], harness := (true, "fa48307849073a82774eafa31f77aca99572cf6ca956afa316d8db552789979b"), looks := false }, kinds := [], alts := [], laidByText := true, laidKinds := [.data, .data, .data], laidTests := true, laidLooks := .later }
def ReadNumbersUptoCardSaid : Prop := Claim7.holds Tryd.pinned (.plain (OpenSpec.upto readNumbersSpec)) readNumbersUptoCard
end Rows
end Go.Proofs.YteipogfolnlblaaDoor
