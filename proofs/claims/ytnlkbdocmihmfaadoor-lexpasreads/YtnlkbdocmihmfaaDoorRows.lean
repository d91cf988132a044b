/-
  NARROWER THAN 'FOR EVERY INPUT', by the rows' own cells (each row's printed sentence says how): LexPasReads: laid · LexPasBlanks: laid · LexPasGreat: laid · LexPasPlaces: laid · LexPasJoins: laid.
  DERIVED. THE GIVEN ROWS OF THIS SEAT. 5 by the template 'for every input the law returns true; each argument reads behind the call as it read before'; 0 by the template 'total and deterministic' (their statements: YtnlkbdocmihmfaaDoorTotals.lean).
  GIVEN WITH THE SEED: the statements are not yours to turn. If you find one false, say at which input.
  Laid BY PROGRAM, IN A SANDBOX (cutbox-rows.mjs): the forced cells as the released guide's own fill.sh prints them over the translation 76bc2c97ca292a88… (all of the seat's roots in one cut). By AI agents, Wed Nov 11 2026. No macro, syntax, notation, axiom, sorry.
-/
import Derived.Test.YtnlkbdocmihmfaaDoorChecked
import GoSem.PinnedTables
import GoSem.Claim
import GoSem.ClaimJoined
import GoSem.ClaimMapViews
import Derived.JoinedTies
import Derived.KernelRfl
namespace Go.Proofs.YtnlkbdocmihmfaaDoor
/- THE CELL 'sum', in the pinned program and in every row, IS THE sha256 OF THE DUMP (.gsa) THAT YtnlkbdocmihmfaaDoorProg.lean LOADS. Nothing in Lean hashes anything: it is a label: what it is worth is what the hold of that sum in a sandbox is worth. -/
noncomputable def Tryd.pinned : Pinned := { name := "ytnlkbdocmihmfaadoor", sum := "76bc2c97ca292a884412ee2ca308dc4061d117551cfec60ac5ea23935e2a63b2", checked := Tryd.checked }
namespace Rows
def none {H : Type} : Left H := { results := [], args := [] }

/- WHAT THE LISTED PACKAGE-LEVEL VARIABLES READ AS WHEN THE CALL BEGINS. Each datum BY PROGRAM (the guide's laid-datum.mjs) off the statement by which the dump's own 'gosem.cut.vars' lays the variable. In a bare row this is a premise. The card (YtnlkbdocmihmfaaDoorCards.lean) ties it to the program's text. -/
def laid_unicode_utf8_acceptRanges {H : Type} : DataW H := .agg [.agg [.lit (.int .u8 128), .lit (.int .u8 191)], .agg [.lit (.int .u8 160), .lit (.int .u8 191)], .agg [.lit (.int .u8 128), .lit (.int .u8 159)], .agg [.lit (.int .u8 144), .lit (.int .u8 191)], .agg [.lit (.int .u8 128), .lit (.int .u8 143)], .agg [.lit (.int .u8 0), .lit (.int .u8 0)], .agg [.lit (.int .u8 0), .lit (.int .u8 0)], .agg [.lit (.int .u8 0), .lit (.int .u8 0)], .agg [.lit (.int .u8 0), .lit (.int .u8 0)], .agg [.lit (.int .u8 0), .lit (.int .u8 0)], .agg [.lit (.int .u8 0), .lit (.int .u8 0)], .agg [.lit (.int .u8 0), .lit (.int .u8 0)], .agg [.lit (.int .u8 0), .lit (.int .u8 0)], .agg [.lit (.int .u8 0), .lit (.int .u8 0)], .agg [.lit (.int .u8 0), .lit (.int .u8 0)], .agg [.lit (.int .u8 0), .lit (.int .u8 0)]]
/-- One of Go's own tables, pinned by name: the form's constant. -/
def laid_unicode_CaseRanges : DataW Unit := Go.Pinned.caseRanges
/-- One of Go's own tables, pinned by name: the form's constant. -/
def laid_unicode_utf8_first : DataW Unit := Go.Pinned.utf8First

/-- 'pantographlaw05.LexPasReads': WHATEVER THE INPUT: true; the input reads as it did. -/
def lexPasReadsSpec : ChangeSpec := { name := "lexPasReads", fn := fun _ => fun
  | [d] => { results := [.lit (.bool true)], args := [d] }
  | _ => none }
def lexPasReadsRow : OpenClaim := { program := "ytnlkbdocmihmfaadoor", sum := "76bc2c97ca292a884412ee2ca308dc4061d117551cfec60ac5ea23935e2a63b2", func := "pantograph/pantographlaw05.LexPasReads", spec := "lexPasReads", inPlace := ["internal/bytealg.IndexByteString", "internal/abi.NoEscape", "internal/bytealg.MakeNoZero"], unfollowed := true, recurses := true, named := ["unicode/utf8.first", "unicode/utf8.acceptRanges", "unicode.CaseRanges"], apart := false, laid := [("unicode/utf8.acceptRanges", laid_unicode_utf8_acceptRanges), ("unicode.CaseRanges", laid_unicode_CaseRanges), ("unicode/utf8.first", laid_unicode_utf8_first)] }
def LexPasReadsSaid : Prop := lexPasReadsRow.holds Tryd.pinned (OpenSpec.ofChange lexPasReadsSpec)

/-- ITS FALSE NEIGHBOUR: 'it returns false'. Refute it at one input. -/
def lexPasReadsWrong : ChangeSpec := { name := "lexPasReads", fn := fun _ => fun
  | [d] => { results := [.lit (.bool false)], args := [d] }
  | _ => none }
def LexPasReadsWrongFalsely : Prop := lexPasReadsRow.holds Tryd.pinned (OpenSpec.ofChange lexPasReadsWrong)

/-- 'pantographlaw05.LexPasBlanks': WHATEVER THE INPUT: true; the input reads as it did. -/
def lexPasBlanksSpec : ChangeSpec := { name := "lexPasBlanks", fn := fun _ => fun
  | [d1, d2] => { results := [.lit (.bool true)], args := [d1, d2] }
  | _ => none }
def lexPasBlanksRow : OpenClaim := { program := "ytnlkbdocmihmfaadoor", sum := "76bc2c97ca292a884412ee2ca308dc4061d117551cfec60ac5ea23935e2a63b2", func := "pantograph/pantographlaw05.LexPasBlanks", spec := "lexPasBlanks", inPlace := ["internal/bytealg.IndexByteString", "internal/abi.NoEscape", "internal/bytealg.MakeNoZero"], unfollowed := true, recurses := true, named := ["unicode/utf8.first", "unicode/utf8.acceptRanges", "unicode.CaseRanges"], apart := false, laid := [("unicode/utf8.acceptRanges", laid_unicode_utf8_acceptRanges), ("unicode.CaseRanges", laid_unicode_CaseRanges), ("unicode/utf8.first", laid_unicode_utf8_first)] }
def LexPasBlanksSaid : Prop := lexPasBlanksRow.holds Tryd.pinned (OpenSpec.ofChange lexPasBlanksSpec)

/-- ITS FALSE NEIGHBOUR: 'it returns false'. Refute it at one input. -/
def lexPasBlanksWrong : ChangeSpec := { name := "lexPasBlanks", fn := fun _ => fun
  | [d1, d2] => { results := [.lit (.bool false)], args := [d1, d2] }
  | _ => none }
def LexPasBlanksWrongFalsely : Prop := lexPasBlanksRow.holds Tryd.pinned (OpenSpec.ofChange lexPasBlanksWrong)

/-- 'pantographlaw05.LexPasGreat': WHATEVER THE INPUT: true; the input reads as it did. -/
def lexPasGreatSpec : ChangeSpec := { name := "lexPasGreat", fn := fun _ => fun
  | [d] => { results := [.lit (.bool true)], args := [d] }
  | _ => none }
def lexPasGreatRow : OpenClaim := { program := "ytnlkbdocmihmfaadoor", sum := "76bc2c97ca292a884412ee2ca308dc4061d117551cfec60ac5ea23935e2a63b2", func := "pantograph/pantographlaw05.LexPasGreat", spec := "lexPasGreat", inPlace := ["internal/bytealg.IndexByteString", "internal/abi.NoEscape", "internal/bytealg.MakeNoZero"], unfollowed := true, recurses := true, named := ["unicode/utf8.first", "unicode/utf8.acceptRanges", "unicode.CaseRanges"], apart := false, laid := [("unicode/utf8.acceptRanges", laid_unicode_utf8_acceptRanges), ("unicode.CaseRanges", laid_unicode_CaseRanges), ("unicode/utf8.first", laid_unicode_utf8_first)] }
def LexPasGreatSaid : Prop := lexPasGreatRow.holds Tryd.pinned (OpenSpec.ofChange lexPasGreatSpec)

/-- ITS FALSE NEIGHBOUR: 'it returns false'. Refute it at one input. -/
def lexPasGreatWrong : ChangeSpec := { name := "lexPasGreat", fn := fun _ => fun
  | [d] => { results := [.lit (.bool false)], args := [d] }
  | _ => none }
def LexPasGreatWrongFalsely : Prop := lexPasGreatRow.holds Tryd.pinned (OpenSpec.ofChange lexPasGreatWrong)

/-- 'pantographlaw05.LexPasPlaces': WHATEVER THE INPUT: true; the input reads as it did. -/
def lexPasPlacesSpec : ChangeSpec := { name := "lexPasPlaces", fn := fun _ => fun
  | [d] => { results := [.lit (.bool true)], args := [d] }
  | _ => none }
def lexPasPlacesRow : OpenClaim := { program := "ytnlkbdocmihmfaadoor", sum := "76bc2c97ca292a884412ee2ca308dc4061d117551cfec60ac5ea23935e2a63b2", func := "pantograph/pantographlaw05.LexPasPlaces", spec := "lexPasPlaces", inPlace := ["internal/bytealg.IndexByteString", "internal/abi.NoEscape", "internal/bytealg.MakeNoZero"], unfollowed := true, recurses := true, named := ["unicode/utf8.first", "unicode/utf8.acceptRanges", "unicode.CaseRanges"], apart := false, laid := [("unicode/utf8.acceptRanges", laid_unicode_utf8_acceptRanges), ("unicode.CaseRanges", laid_unicode_CaseRanges), ("unicode/utf8.first", laid_unicode_utf8_first)] }
def LexPasPlacesSaid : Prop := lexPasPlacesRow.holds Tryd.pinned (OpenSpec.ofChange lexPasPlacesSpec)

/-- ITS FALSE NEIGHBOUR: 'it returns false'. Refute it at one input. -/
def lexPasPlacesWrong : ChangeSpec := { name := "lexPasPlaces", fn := fun _ => fun
  | [d] => { results := [.lit (.bool false)], args := [d] }
  | _ => none }
def LexPasPlacesWrongFalsely : Prop := lexPasPlacesRow.holds Tryd.pinned (OpenSpec.ofChange lexPasPlacesWrong)

/-- 'pantographlaw05.LexPasJoins': WHATEVER THE INPUT: true; the input reads as it did. -/
def lexPasJoinsSpec : ChangeSpec := { name := "lexPasJoins", fn := fun _ => fun
  | [d1, d2] => { results := [.lit (.bool true)], args := [d1, d2] }
  | _ => none }
def lexPasJoinsRow : OpenClaim := { program := "ytnlkbdocmihmfaadoor", sum := "76bc2c97ca292a884412ee2ca308dc4061d117551cfec60ac5ea23935e2a63b2", func := "pantograph/pantographlaw05.LexPasJoins", spec := "lexPasJoins", inPlace := ["internal/bytealg.IndexByteString", "internal/abi.NoEscape", "internal/bytealg.MakeNoZero"], unfollowed := true, recurses := true, named := ["unicode/utf8.first", "unicode/utf8.acceptRanges", "unicode.CaseRanges"], apart := false, laid := [("unicode/utf8.acceptRanges", laid_unicode_utf8_acceptRanges), ("unicode.CaseRanges", laid_unicode_CaseRanges), ("unicode/utf8.first", laid_unicode_utf8_first)] }
def LexPasJoinsSaid : Prop := lexPasJoinsRow.holds Tryd.pinned (OpenSpec.ofChange lexPasJoinsSpec)

/-- ITS FALSE NEIGHBOUR: 'it returns false'. Refute it at one input. -/
def lexPasJoinsWrong : ChangeSpec := { name := "lexPasJoins", fn := fun _ => fun
  | [d1, d2] => { results := [.lit (.bool false)], args := [d1, d2] }
  | _ => none }
def LexPasJoinsWrongFalsely : Prop := lexPasJoinsRow.holds Tryd.pinned (OpenSpec.ofChange lexPasJoinsWrong)

/- THE SECOND FORM. 'bulk': how many values and letters a reading holds, each counted each time it is reached (what is shared counts as often as it is met; a slice's spare places count too). A statement '..UptoSaid' is the law's where the arguments, and the package variables that the reading takes, are together of bulk at most 1048576: NARROWER than '..Said'. Prove '..Said' where nothing that the law and all that it calls make is longer than what came in: it says more and counts as full. Else prove '..UptoSaid'. A law counts once. -/
mutual
def uptoBulk {H : Type} : DataW H → Nat
  | .lit (.string bytes) => bytes.length + 1
  | .lit _ => 1
  | .nil => 1
  | .ptr d => uptoBulk d + 1
  | .slice elems spare => uptoBulkAll elems + uptoBulkAll spare + 1
  | .agg parts => uptoBulkAll parts + 1
  | .iface _ d => uptoBulk d + 1
  | .map entries => uptoBulkEntries entries + 1
  | .held _ => 1
def uptoBulkAll {H : Type} : List (DataW H) → Nat
  | [] => 0
  | d :: r => uptoBulk d + uptoBulkAll r
def uptoBulkEntries {H : Type} : List (Lit × DataW H) → Nat
  | [] => 0
  | x :: r => uptoBulkEntry x + uptoBulkEntries r
def uptoBulkEntry {H : Type} : Lit × DataW H → Nat
  | (.string bytes, d) => bytes.length + uptoBulk d + 1
  | (_, d) => uptoBulk d + 1
 end
def uptoSmall : (H : Type) → List (DataW H) → Bool := fun _ ds => decide (uptoBulkAll ds ≤ 1048576)
def OpenSpec.upto (s : _root_.Go.ChangeSpec) : _root_.Go.OpenSpec := { _root_.Go.OpenSpec.ofChange s with cond := some uptoSmall }

/-- 'pantographlaw05.LexPasReads', WHERE WHAT IT READS IS OF BULK AT MOST 1048576: true; the input reads as it did. -/
def lexPasReadsUptoRow : OpenClaim := { program := "ytnlkbdocmihmfaadoor", sum := "76bc2c97ca292a884412ee2ca308dc4061d117551cfec60ac5ea23935e2a63b2", func := "pantograph/pantographlaw05.LexPasReads", spec := "lexPasReads", inPlace := ["internal/bytealg.IndexByteString", "internal/abi.NoEscape", "internal/bytealg.MakeNoZero"], unfollowed := true, recurses := true, named := ["unicode/utf8.first", "unicode/utf8.acceptRanges", "unicode.CaseRanges"], apart := false, laid := [("unicode/utf8.acceptRanges", laid_unicode_utf8_acceptRanges), ("unicode.CaseRanges", laid_unicode_CaseRanges), ("unicode/utf8.first", laid_unicode_utf8_first)], narrowed := true }
def LexPasReadsUptoSaid : Prop := lexPasReadsUptoRow.holds Tryd.pinned (OpenSpec.upto lexPasReadsSpec)

/-- 'pantographlaw05.LexPasBlanks', WHERE WHAT IT READS IS OF BULK AT MOST 1048576: true; the input reads as it did. -/
def lexPasBlanksUptoRow : OpenClaim := { program := "ytnlkbdocmihmfaadoor", sum := "76bc2c97ca292a884412ee2ca308dc4061d117551cfec60ac5ea23935e2a63b2", func := "pantograph/pantographlaw05.LexPasBlanks", spec := "lexPasBlanks", inPlace := ["internal/bytealg.IndexByteString", "internal/abi.NoEscape", "internal/bytealg.MakeNoZero"], unfollowed := true, recurses := true, named := ["unicode/utf8.first", "unicode/utf8.acceptRanges", "unicode.CaseRanges"], apart := false, laid := [("unicode/utf8.acceptRanges", laid_unicode_utf8_acceptRanges), ("unicode.CaseRanges", laid_unicode_CaseRanges), ("unicode/utf8.first", laid_unicode_utf8_first)], narrowed := true }
def LexPasBlanksUptoSaid : Prop := lexPasBlanksUptoRow.holds Tryd.pinned (OpenSpec.upto lexPasBlanksSpec)

/-- 'pantographlaw05.LexPasGreat', WHERE WHAT IT READS IS OF BULK AT MOST 1048576: true; the input reads as it did. -/
def lexPasGreatUptoRow : OpenClaim := { program := "ytnlkbdocmihmfaadoor", sum := "76bc2c97ca292a884412ee2ca308dc4061d117551cfec60ac5ea23935e2a63b2", func := "pantograph/pantographlaw05.LexPasGreat", spec := "lexPasGreat", inPlace := ["internal/bytealg.IndexByteString", "internal/abi.NoEscape", "internal/bytealg.MakeNoZero"], unfollowed := true, recurses := true, named := ["unicode/utf8.first", "unicode/utf8.acceptRanges", "unicode.CaseRanges"], apart := false, laid := [("unicode/utf8.acceptRanges", laid_unicode_utf8_acceptRanges), ("unicode.CaseRanges", laid_unicode_CaseRanges), ("unicode/utf8.first", laid_unicode_utf8_first)], narrowed := true }
def LexPasGreatUptoSaid : Prop := lexPasGreatUptoRow.holds Tryd.pinned (OpenSpec.upto lexPasGreatSpec)

/-- 'pantographlaw05.LexPasPlaces', WHERE WHAT IT READS IS OF BULK AT MOST 1048576: true; the input reads as it did. -/
def lexPasPlacesUptoRow : OpenClaim := { program := "ytnlkbdocmihmfaadoor", sum := "76bc2c97ca292a884412ee2ca308dc4061d117551cfec60ac5ea23935e2a63b2", func := "pantograph/pantographlaw05.LexPasPlaces", spec := "lexPasPlaces", inPlace := ["internal/bytealg.IndexByteString", "internal/abi.NoEscape", "internal/bytealg.MakeNoZero"], unfollowed := true, recurses := true, named := ["unicode/utf8.first", "unicode/utf8.acceptRanges", "unicode.CaseRanges"], apart := false, laid := [("unicode/utf8.acceptRanges", laid_unicode_utf8_acceptRanges), ("unicode.CaseRanges", laid_unicode_CaseRanges), ("unicode/utf8.first", laid_unicode_utf8_first)], narrowed := true }
def LexPasPlacesUptoSaid : Prop := lexPasPlacesUptoRow.holds Tryd.pinned (OpenSpec.upto lexPasPlacesSpec)

/-- 'pantographlaw05.LexPasJoins', WHERE WHAT IT READS IS OF BULK AT MOST 1048576: true; the input reads as it did. -/
def lexPasJoinsUptoRow : OpenClaim := { program := "ytnlkbdocmihmfaadoor", sum := "76bc2c97ca292a884412ee2ca308dc4061d117551cfec60ac5ea23935e2a63b2", func := "pantograph/pantographlaw05.LexPasJoins", spec := "lexPasJoins", inPlace := ["internal/bytealg.IndexByteString", "internal/abi.NoEscape", "internal/bytealg.MakeNoZero"], unfollowed := true, recurses := true, named := ["unicode/utf8.first", "unicode/utf8.acceptRanges", "unicode.CaseRanges"], apart := false, laid := [("unicode/utf8.acceptRanges", laid_unicode_utf8_acceptRanges), ("unicode.CaseRanges", laid_unicode_CaseRanges), ("unicode/utf8.first", laid_unicode_utf8_first)], narrowed := true }
def LexPasJoinsUptoSaid : Prop := lexPasJoinsUptoRow.holds Tryd.pinned (OpenSpec.upto lexPasJoinsSpec)

end Rows
end Go.Proofs.YtnlkbdocmihmfaaDoor
