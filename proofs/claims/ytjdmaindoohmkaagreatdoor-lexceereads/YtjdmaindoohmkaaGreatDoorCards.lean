/-
  DERIVED. GIVEN WITH THE SEED: THE CARDS: each row of YtjdmaindoohmkaaGreatDoorRows.lean that lists a variable, with what it lists TIED to the program's text (the seventh form; the later family's looks); each row that meets fmt, with fmt's text TOLD by the authors' own Lean function (tested against real Go, not proved from fmt's source: count such statements apart). THE CARD IS WHAT COUNTS. Prove the row's statement (the work); the ties are given (YtjdmaindoohmkaaGreatDoorTie.lean); close each card by the builder's one call (the guide's Derived/Test/ToyasCard.lean, 'card_holds'). Laid BY PROGRAM, IN A SANDBOX (cutbox-door.mjs). By AI agents, Wed Nov 11 2026. No macro, syntax, notation, axiom, sorry.
-/
import Derived.Test.YtjdmaindoohmkaaGreatDoorRows
import GoSem.ClaimSeven
namespace Go.Proofs.YtjdmaindoohmkaaGreatDoor
namespace Rows

/-- THE TIED CARD OF 'pantographlaw06.LexCeeReads'. -/
def lexCeeReadsCard : Claim7 := { stood := { row := lexCeeReadsRow, standIns := [], harness := (true, "4c0ef03c3ab2c62d78e8a381cef49f05d2fc5f4b57f19077c968eefd0ef1f160"), looks := true }, kinds := [], alts := [], laidByText := true, laidKinds := [.data, .data, .data, .sentinel, .sentinel], laidTests := true, laidLooks := .later }
def LexCeeReadsCardSaid : Prop := Claim7.holds Tryz.pinned (.plain (OpenSpec.ofChange lexCeeReadsSpec)) lexCeeReadsCard

/-- THE SECOND FORM's CARD OF 'pantographlaw06.LexCeeReads'. -/
def lexCeeReadsUptoCard : Claim7 := { stood := { row := lexCeeReadsUptoRow, standIns := [], harness := (true, "4c0ef03c3ab2c62d78e8a381cef49f05d2fc5f4b57f19077c968eefd0ef1f160"), looks := true }, kinds := [], alts := [], laidByText := true, laidKinds := [.data, .data, .data, .sentinel, .sentinel], laidTests := true, laidLooks := .later }
def LexCeeReadsUptoCardSaid : Prop := Claim7.holds Tryz.pinned (.plain (OpenSpec.upto lexCeeReadsSpec)) lexCeeReadsUptoCard
end Rows
end Go.Proofs.YtjdmaindoohmkaaGreatDoor
