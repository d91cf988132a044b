/-
  DERIVED. GIVEN WITH THE SEED: THE CARDS: each row of YtjdmaindoohmkaaDoorRows.lean that lists a variable, with what it lists TIED to the program's text (the seventh form; the later family's looks); each row that meets fmt, with fmt's text TOLD by the authors' own Lean function (tested against real Go, not proved from fmt's source: count such statements apart). THE CARD IS WHAT COUNTS. Prove the row's statement (the work); the ties are given (YtjdmaindoohmkaaDoorTie.lean); close each card by the builder's one call (the guide's Derived/Test/ToyasCard.lean, 'card_holds'). Laid BY PROGRAM, IN A SANDBOX (cutbox-door.mjs). By AI agents, Wed Nov 11 2026. No macro, syntax, notation, axiom, sorry.
-/
import Derived.Test.YtjdmaindoohmkaaDoorRows
import GoSem.ClaimSeven
namespace Go.Proofs.YtjdmaindoohmkaaDoor
namespace Rows

/-- THE TIED CARD OF 'pantographlaw05.LexPasReads'. -/
def lexPasReadsCard : Claim7 := { stood := { row := lexPasReadsRow, standIns := [], harness := (true, "e58190c35e6d77afec39af9e13c2a90d56e7deae3124adc9bd91480343ffe4a9"), looks := true }, kinds := [], alts := [], laidByText := true, laidKinds := [.data, .pinned, .pinned], laidTests := true, laidLooks := .later }
def LexPasReadsCardSaid : Prop := Claim7.holds Tryd.pinned (.plain (OpenSpec.ofChange lexPasReadsSpec)) lexPasReadsCard

/-- THE TIED CARD OF 'pantographlaw05.LexPasBlanks'. -/
def lexPasBlanksCard : Claim7 := { stood := { row := lexPasBlanksRow, standIns := [], harness := (true, "e58190c35e6d77afec39af9e13c2a90d56e7deae3124adc9bd91480343ffe4a9"), looks := true }, kinds := [], alts := [], laidByText := true, laidKinds := [.data, .pinned, .pinned], laidTests := true, laidLooks := .later }
def LexPasBlanksCardSaid : Prop := Claim7.holds Tryd.pinned (.plain (OpenSpec.ofChange lexPasBlanksSpec)) lexPasBlanksCard

/-- THE TIED CARD OF 'pantographlaw05.LexPasGreat'. -/
def lexPasGreatCard : Claim7 := { stood := { row := lexPasGreatRow, standIns := [], harness := (true, "e58190c35e6d77afec39af9e13c2a90d56e7deae3124adc9bd91480343ffe4a9"), looks := true }, kinds := [], alts := [], laidByText := true, laidKinds := [.data, .pinned, .pinned], laidTests := true, laidLooks := .later }
def LexPasGreatCardSaid : Prop := Claim7.holds Tryd.pinned (.plain (OpenSpec.ofChange lexPasGreatSpec)) lexPasGreatCard

/-- THE TIED CARD OF 'pantographlaw05.LexPasPlaces'. -/
def lexPasPlacesCard : Claim7 := { stood := { row := lexPasPlacesRow, standIns := [], harness := (true, "e58190c35e6d77afec39af9e13c2a90d56e7deae3124adc9bd91480343ffe4a9"), looks := true }, kinds := [], alts := [], laidByText := true, laidKinds := [.data, .pinned, .pinned], laidTests := true, laidLooks := .later }
def LexPasPlacesCardSaid : Prop := Claim7.holds Tryd.pinned (.plain (OpenSpec.ofChange lexPasPlacesSpec)) lexPasPlacesCard

/-- THE TIED CARD OF 'pantographlaw05.LexPasJoins'. -/
def lexPasJoinsCard : Claim7 := { stood := { row := lexPasJoinsRow, standIns := [], harness := (true, "e58190c35e6d77afec39af9e13c2a90d56e7deae3124adc9bd91480343ffe4a9"), looks := true }, kinds := [], alts := [], laidByText := true, laidKinds := [.data, .pinned, .pinned], laidTests := true, laidLooks := .later }
def LexPasJoinsCardSaid : Prop := Claim7.holds Tryd.pinned (.plain (OpenSpec.ofChange lexPasJoinsSpec)) lexPasJoinsCard

/-- THE TIED CARD OF 'pantographlaw06.LexCeeBlanks'. -/
def lexCeeBlanksCard : Claim7 := { stood := { row := lexCeeBlanksRow, standIns := [], harness := (true, "e58190c35e6d77afec39af9e13c2a90d56e7deae3124adc9bd91480343ffe4a9"), looks := true }, kinds := [], alts := [], laidByText := true, laidKinds := [.data, .data, .data, .sentinel, .sentinel], laidTests := true, laidLooks := .later }
def LexCeeBlanksCardSaid : Prop := Claim7.holds Tryd.pinned (.plain (OpenSpec.ofChange lexCeeBlanksSpec)) lexCeeBlanksCard

/-- THE TIED CARD OF 'pantographlaw06.LexCeeChars'. -/
def lexCeeCharsCard : Claim7 := { stood := { row := lexCeeCharsRow, standIns := [], harness := (true, "e58190c35e6d77afec39af9e13c2a90d56e7deae3124adc9bd91480343ffe4a9"), looks := true }, kinds := [], alts := [], laidByText := true, laidKinds := [.data, .data, .data, .sentinel, .sentinel], laidTests := true, laidLooks := .later }
def LexCeeCharsCardSaid : Prop := Claim7.holds Tryd.pinned (.plain (OpenSpec.ofChange lexCeeCharsSpec)) lexCeeCharsCard

/-- THE TIED CARD OF 'pantographlaw06.LexCeePlaces'. -/
def lexCeePlacesCard : Claim7 := { stood := { row := lexCeePlacesRow, standIns := [], harness := (true, "e58190c35e6d77afec39af9e13c2a90d56e7deae3124adc9bd91480343ffe4a9"), looks := true }, kinds := [], alts := [], laidByText := true, laidKinds := [.data, .data, .data, .sentinel, .sentinel], laidTests := true, laidLooks := .later }
def LexCeePlacesCardSaid : Prop := Claim7.holds Tryd.pinned (.plain (OpenSpec.ofChange lexCeePlacesSpec)) lexCeePlacesCard

/-- THE TIED CARD OF 'pantographlaw06.LexCeeJoins'. -/
def lexCeeJoinsCard : Claim7 := { stood := { row := lexCeeJoinsRow, standIns := [], harness := (true, "e58190c35e6d77afec39af9e13c2a90d56e7deae3124adc9bd91480343ffe4a9"), looks := true }, kinds := [], alts := [], laidByText := true, laidKinds := [.data, .data, .data, .sentinel, .sentinel], laidTests := true, laidLooks := .later }
def LexCeeJoinsCardSaid : Prop := Claim7.holds Tryd.pinned (.plain (OpenSpec.ofChange lexCeeJoinsSpec)) lexCeeJoinsCard

/-- THE SECOND FORM's CARD OF 'pantographlaw05.LexPasReads'. -/
def lexPasReadsUptoCard : Claim7 := { stood := { row := lexPasReadsUptoRow, standIns := [], harness := (true, "e58190c35e6d77afec39af9e13c2a90d56e7deae3124adc9bd91480343ffe4a9"), looks := true }, kinds := [], alts := [], laidByText := true, laidKinds := [.data, .pinned, .pinned], laidTests := true, laidLooks := .later }
def LexPasReadsUptoCardSaid : Prop := Claim7.holds Tryd.pinned (.plain (OpenSpec.upto lexPasReadsSpec)) lexPasReadsUptoCard

/-- THE SECOND FORM's CARD OF 'pantographlaw05.LexPasBlanks'. -/
def lexPasBlanksUptoCard : Claim7 := { stood := { row := lexPasBlanksUptoRow, standIns := [], harness := (true, "e58190c35e6d77afec39af9e13c2a90d56e7deae3124adc9bd91480343ffe4a9"), looks := true }, kinds := [], alts := [], laidByText := true, laidKinds := [.data, .pinned, .pinned], laidTests := true, laidLooks := .later }
def LexPasBlanksUptoCardSaid : Prop := Claim7.holds Tryd.pinned (.plain (OpenSpec.upto lexPasBlanksSpec)) lexPasBlanksUptoCard

/-- THE SECOND FORM's CARD OF 'pantographlaw05.LexPasGreat'. -/
def lexPasGreatUptoCard : Claim7 := { stood := { row := lexPasGreatUptoRow, standIns := [], harness := (true, "e58190c35e6d77afec39af9e13c2a90d56e7deae3124adc9bd91480343ffe4a9"), looks := true }, kinds := [], alts := [], laidByText := true, laidKinds := [.data, .pinned, .pinned], laidTests := true, laidLooks := .later }
def LexPasGreatUptoCardSaid : Prop := Claim7.holds Tryd.pinned (.plain (OpenSpec.upto lexPasGreatSpec)) lexPasGreatUptoCard

/-- THE SECOND FORM's CARD OF 'pantographlaw05.LexPasPlaces'. -/
def lexPasPlacesUptoCard : Claim7 := { stood := { row := lexPasPlacesUptoRow, standIns := [], harness := (true, "e58190c35e6d77afec39af9e13c2a90d56e7deae3124adc9bd91480343ffe4a9"), looks := true }, kinds := [], alts := [], laidByText := true, laidKinds := [.data, .pinned, .pinned], laidTests := true, laidLooks := .later }
def LexPasPlacesUptoCardSaid : Prop := Claim7.holds Tryd.pinned (.plain (OpenSpec.upto lexPasPlacesSpec)) lexPasPlacesUptoCard

/-- THE SECOND FORM's CARD OF 'pantographlaw05.LexPasJoins'. -/
def lexPasJoinsUptoCard : Claim7 := { stood := { row := lexPasJoinsUptoRow, standIns := [], harness := (true, "e58190c35e6d77afec39af9e13c2a90d56e7deae3124adc9bd91480343ffe4a9"), looks := true }, kinds := [], alts := [], laidByText := true, laidKinds := [.data, .pinned, .pinned], laidTests := true, laidLooks := .later }
def LexPasJoinsUptoCardSaid : Prop := Claim7.holds Tryd.pinned (.plain (OpenSpec.upto lexPasJoinsSpec)) lexPasJoinsUptoCard

/-- THE SECOND FORM's CARD OF 'pantographlaw06.LexCeeBlanks'. -/
def lexCeeBlanksUptoCard : Claim7 := { stood := { row := lexCeeBlanksUptoRow, standIns := [], harness := (true, "e58190c35e6d77afec39af9e13c2a90d56e7deae3124adc9bd91480343ffe4a9"), looks := true }, kinds := [], alts := [], laidByText := true, laidKinds := [.data, .data, .data, .sentinel, .sentinel], laidTests := true, laidLooks := .later }
def LexCeeBlanksUptoCardSaid : Prop := Claim7.holds Tryd.pinned (.plain (OpenSpec.upto lexCeeBlanksSpec)) lexCeeBlanksUptoCard

/-- THE SECOND FORM's CARD OF 'pantographlaw06.LexCeeChars'. -/
def lexCeeCharsUptoCard : Claim7 := { stood := { row := lexCeeCharsUptoRow, standIns := [], harness := (true, "e58190c35e6d77afec39af9e13c2a90d56e7deae3124adc9bd91480343ffe4a9"), looks := true }, kinds := [], alts := [], laidByText := true, laidKinds := [.data, .data, .data, .sentinel, .sentinel], laidTests := true, laidLooks := .later }
def LexCeeCharsUptoCardSaid : Prop := Claim7.holds Tryd.pinned (.plain (OpenSpec.upto lexCeeCharsSpec)) lexCeeCharsUptoCard

/-- THE SECOND FORM's CARD OF 'pantographlaw06.LexCeePlaces'. -/
def lexCeePlacesUptoCard : Claim7 := { stood := { row := lexCeePlacesUptoRow, standIns := [], harness := (true, "e58190c35e6d77afec39af9e13c2a90d56e7deae3124adc9bd91480343ffe4a9"), looks := true }, kinds := [], alts := [], laidByText := true, laidKinds := [.data, .data, .data, .sentinel, .sentinel], laidTests := true, laidLooks := .later }
def LexCeePlacesUptoCardSaid : Prop := Claim7.holds Tryd.pinned (.plain (OpenSpec.upto lexCeePlacesSpec)) lexCeePlacesUptoCard

/-- THE SECOND FORM's CARD OF 'pantographlaw06.LexCeeJoins'. -/
def lexCeeJoinsUptoCard : Claim7 := { stood := { row := lexCeeJoinsUptoRow, standIns := [], harness := (true, "e58190c35e6d77afec39af9e13c2a90d56e7deae3124adc9bd91480343ffe4a9"), looks := true }, kinds := [], alts := [], laidByText := true, laidKinds := [.data, .data, .data, .sentinel, .sentinel], laidTests := true, laidLooks := .later }
def LexCeeJoinsUptoCardSaid : Prop := Claim7.holds Tryd.pinned (.plain (OpenSpec.upto lexCeeJoinsSpec)) lexCeeJoinsUptoCard
end Rows
end Go.Proofs.YtjdmaindoohmkaaDoor
