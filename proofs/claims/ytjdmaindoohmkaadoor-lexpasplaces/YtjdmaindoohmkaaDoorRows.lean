/-
  NARROWER THAN 'FOR EVERY INPUT', by the rows' own cells (each row's printed sentence says how): LexPasReads: laid · LexPasBlanks: laid · LexPasGreat: laid · LexPasPlaces: laid · LexPasJoins: laid · LexCeeBlanks: laid · LexCeeChars: laid · LexCeePlaces: laid · LexCeeJoins: laid.
  DERIVED. THE GIVEN ROWS OF THIS SEAT. 9 by the template 'for every input the law returns true; each argument reads behind the call as it read before'; 0 by the template 'total and deterministic' (their statements: YtjdmaindoohmkaaDoorTotals.lean).
  GIVEN WITH THE SEED: the statements are not yours to turn. If you find one false, say at which input.
  Laid BY PROGRAM, IN A SANDBOX (cutbox-rows.mjs): the forced cells as the released guide's own fill.sh prints them over the translation 4dcf11da84465d6b… (all of the seat's roots in one cut). By AI agents, Wed Nov 11 2026. No macro, syntax, notation, axiom, sorry.
-/
import Derived.Test.YtjdmaindoohmkaaDoorChecked
import GoSem.PinnedTables
import GoSem.Claim
import GoSem.ClaimJoined
import GoSem.ClaimMapViews
import Derived.JoinedTies
import Derived.KernelRfl
namespace Go.Proofs.YtjdmaindoohmkaaDoor
/- THE CELL 'sum', in the pinned program and in every row, IS THE sha256 OF THE DUMP (.gsa) THAT YtjdmaindoohmkaaDoorProg.lean LOADS. Nothing in Lean hashes anything: it is a label: what it is worth is what the hold of that sum in a sandbox is worth. -/
noncomputable def Tryd.pinned : Pinned := { name := "ytjdmaindoohmkaadoor", sum := "4dcf11da84465d6b239d4c9684a5f20f388146296f36990600e6bc5387dbdb67", checked := Tryd.checked }
namespace Rows
def none {H : Type} : Left H := { results := [], args := [] }

/- WHAT THE LISTED PACKAGE-LEVEL VARIABLES READ AS WHEN THE CALL BEGINS. Each datum BY PROGRAM (the guide's laid-datum.mjs) off the statement by which the dump's own 'gosem.cut.vars' lays the variable. In a bare row this is a premise. The card (YtjdmaindoohmkaaDoorCards.lean) ties it to the program's text. -/
def laid_unicode_utf8_acceptRanges {H : Type} : DataW H := .agg [.agg [.lit (.int .u8 128), .lit (.int .u8 191)], .agg [.lit (.int .u8 160), .lit (.int .u8 191)], .agg [.lit (.int .u8 128), .lit (.int .u8 159)], .agg [.lit (.int .u8 144), .lit (.int .u8 191)], .agg [.lit (.int .u8 128), .lit (.int .u8 143)], .agg [.lit (.int .u8 0), .lit (.int .u8 0)], .agg [.lit (.int .u8 0), .lit (.int .u8 0)], .agg [.lit (.int .u8 0), .lit (.int .u8 0)], .agg [.lit (.int .u8 0), .lit (.int .u8 0)], .agg [.lit (.int .u8 0), .lit (.int .u8 0)], .agg [.lit (.int .u8 0), .lit (.int .u8 0)], .agg [.lit (.int .u8 0), .lit (.int .u8 0)], .agg [.lit (.int .u8 0), .lit (.int .u8 0)], .agg [.lit (.int .u8 0), .lit (.int .u8 0)], .agg [.lit (.int .u8 0), .lit (.int .u8 0)], .agg [.lit (.int .u8 0), .lit (.int .u8 0)]]
/-- One of Go's own tables, pinned by name: the form's constant. -/
def laid_unicode_CaseRanges : DataW Unit := Go.Pinned.caseRanges
/-- One of Go's own tables, pinned by name: the form's constant. -/
def laid_unicode_utf8_first : DataW Unit := Go.Pinned.utf8First
def laid_math_bits_deBruijn32tab {H : Type} : DataW H := .agg [.lit (.int .u8 0), .lit (.int .u8 1), .lit (.int .u8 28), .lit (.int .u8 2), .lit (.int .u8 29), .lit (.int .u8 14), .lit (.int .u8 24), .lit (.int .u8 3), .lit (.int .u8 30), .lit (.int .u8 22), .lit (.int .u8 20), .lit (.int .u8 15), .lit (.int .u8 25), .lit (.int .u8 17), .lit (.int .u8 4), .lit (.int .u8 8), .lit (.int .u8 31), .lit (.int .u8 27), .lit (.int .u8 13), .lit (.int .u8 23), .lit (.int .u8 21), .lit (.int .u8 19), .lit (.int .u8 16), .lit (.int .u8 7), .lit (.int .u8 26), .lit (.int .u8 12), .lit (.int .u8 18), .lit (.int .u8 6), .lit (.int .u8 11), .lit (.int .u8 5), .lit (.int .u8 10), .lit (.int .u8 9)]
def laid_math_bits_deBruijn64tab {H : Type} : DataW H := .agg [.lit (.int .u8 0), .lit (.int .u8 1), .lit (.int .u8 56), .lit (.int .u8 2), .lit (.int .u8 57), .lit (.int .u8 49), .lit (.int .u8 28), .lit (.int .u8 3), .lit (.int .u8 61), .lit (.int .u8 58), .lit (.int .u8 42), .lit (.int .u8 50), .lit (.int .u8 38), .lit (.int .u8 29), .lit (.int .u8 17), .lit (.int .u8 4), .lit (.int .u8 62), .lit (.int .u8 47), .lit (.int .u8 59), .lit (.int .u8 36), .lit (.int .u8 45), .lit (.int .u8 43), .lit (.int .u8 51), .lit (.int .u8 22), .lit (.int .u8 53), .lit (.int .u8 39), .lit (.int .u8 33), .lit (.int .u8 30), .lit (.int .u8 24), .lit (.int .u8 18), .lit (.int .u8 12), .lit (.int .u8 5), .lit (.int .u8 63), .lit (.int .u8 55), .lit (.int .u8 48), .lit (.int .u8 27), .lit (.int .u8 60), .lit (.int .u8 41), .lit (.int .u8 37), .lit (.int .u8 16), .lit (.int .u8 46), .lit (.int .u8 35), .lit (.int .u8 44), .lit (.int .u8 21), .lit (.int .u8 52), .lit (.int .u8 32), .lit (.int .u8 23), .lit (.int .u8 11), .lit (.int .u8 54), .lit (.int .u8 26), .lit (.int .u8 40), .lit (.int .u8 15), .lit (.int .u8 34), .lit (.int .u8 20), .lit (.int .u8 31), .lit (.int .u8 10), .lit (.int .u8 25), .lit (.int .u8 14), .lit (.int .u8 19), .lit (.int .u8 9), .lit (.int .u8 13), .lit (.int .u8 8), .lit (.int .u8 7), .lit (.int .u8 6)]
def laid_internal_strconv_uint64pow10 {H : Type} : DataW H := .agg [.lit (.int .u64 1), .lit (.int .u64 10), .lit (.int .u64 100), .lit (.int .u64 1000), .lit (.int .u64 10000), .lit (.int .u64 100000), .lit (.int .u64 1000000), .lit (.int .u64 10000000), .lit (.int .u64 100000000), .lit (.int .u64 1000000000), .lit (.int .u64 10000000000), .lit (.int .u64 100000000000), .lit (.int .u64 1000000000000), .lit (.int .u64 10000000000000), .lit (.int .u64 100000000000000), .lit (.int .u64 1000000000000000), .lit (.int .u64 10000000000000000), .lit (.int .u64 100000000000000000), .lit (.int .u64 1000000000000000000), .lit (.int .u64 10000000000000000000)]
def laid_strconv_ErrRange {H : Type} : DataW H := .iface "*errors.errorString" (.ptr (.agg [.lit (.string [118, 97, 108, 117, 101, 32, 111, 117, 116, 32, 111, 102, 32, 114, 97, 110, 103, 101])]))
def laid_strconv_ErrSyntax {H : Type} : DataW H := .iface "*errors.errorString" (.ptr (.agg [.lit (.string [105, 110, 118, 97, 108, 105, 100, 32, 115, 121, 110, 116, 97, 120])]))

/-- 'pantographlaw05.LexPasReads': WHATEVER THE INPUT: true; the input reads as it did. -/
def lexPasReadsSpec : ChangeSpec := { name := "lexPasReads", fn := fun _ => fun
  | [d] => { results := [.lit (.bool true)], args := [d] }
  | _ => none }
def lexPasReadsRow : OpenClaim := { program := "ytjdmaindoohmkaadoor", sum := "4dcf11da84465d6b239d4c9684a5f20f388146296f36990600e6bc5387dbdb67", func := "pantograph/pantographlaw05.LexPasReads", spec := "lexPasReads", inPlace := ["internal/bytealg.IndexByteString", "internal/abi.NoEscape", "internal/bytealg.MakeNoZero"], unfollowed := true, recurses := true, named := ["unicode/utf8.first", "unicode/utf8.acceptRanges", "unicode.CaseRanges"], apart := false, laid := [("unicode/utf8.acceptRanges", laid_unicode_utf8_acceptRanges), ("unicode.CaseRanges", laid_unicode_CaseRanges), ("unicode/utf8.first", laid_unicode_utf8_first)] }
def LexPasReadsSaid : Prop := lexPasReadsRow.holds Tryd.pinned (OpenSpec.ofChange lexPasReadsSpec)

/-- ITS FALSE NEIGHBOUR: 'it returns false'. Refute it at one input. -/
def lexPasReadsWrong : ChangeSpec := { name := "lexPasReads", fn := fun _ => fun
  | [d] => { results := [.lit (.bool false)], args := [d] }
  | _ => none }
def LexPasReadsWrongFalsely : Prop := lexPasReadsRow.holds Tryd.pinned (OpenSpec.ofChange lexPasReadsWrong)

/-- 'pantographlaw05.LexPasBlanks': WHATEVER THE INPUT: true; the input reads as it did. -/
def lexPasBlanksSpec : ChangeSpec := { name := "lexPasBlanks", fn := fun _ => fun
  | [d1, d2] => { results := [.lit (.bool true)], args := [d1, d2] }
  | _ => none }
def lexPasBlanksRow : OpenClaim := { program := "ytjdmaindoohmkaadoor", sum := "4dcf11da84465d6b239d4c9684a5f20f388146296f36990600e6bc5387dbdb67", func := "pantograph/pantographlaw05.LexPasBlanks", spec := "lexPasBlanks", inPlace := ["internal/bytealg.IndexByteString", "internal/abi.NoEscape", "internal/bytealg.MakeNoZero"], unfollowed := true, recurses := true, named := ["unicode/utf8.first", "unicode/utf8.acceptRanges", "unicode.CaseRanges"], apart := false, laid := [("unicode/utf8.acceptRanges", laid_unicode_utf8_acceptRanges), ("unicode.CaseRanges", laid_unicode_CaseRanges), ("unicode/utf8.first", laid_unicode_utf8_first)] }
def LexPasBlanksSaid : Prop := lexPasBlanksRow.holds Tryd.pinned (OpenSpec.ofChange lexPasBlanksSpec)

/-- ITS FALSE NEIGHBOUR: 'it returns false'. Refute it at one input. -/
def lexPasBlanksWrong : ChangeSpec := { name := "lexPasBlanks", fn := fun _ => fun
  | [d1, d2] => { results := [.lit (.bool false)], args := [d1, d2] }
  | _ => none }
def LexPasBlanksWrongFalsely : Prop := lexPasBlanksRow.holds Tryd.pinned (OpenSpec.ofChange lexPasBlanksWrong)

/-- 'pantographlaw05.LexPasGreat': WHATEVER THE INPUT: true; the input reads as it did. -/
def lexPasGreatSpec : ChangeSpec := { name := "lexPasGreat", fn := fun _ => fun
  | [d] => { results := [.lit (.bool true)], args := [d] }
  | _ => none }
def lexPasGreatRow : OpenClaim := { program := "ytjdmaindoohmkaadoor", sum := "4dcf11da84465d6b239d4c9684a5f20f388146296f36990600e6bc5387dbdb67", func := "pantograph/pantographlaw05.LexPasGreat", spec := "lexPasGreat", inPlace := ["internal/bytealg.IndexByteString", "internal/abi.NoEscape", "internal/bytealg.MakeNoZero"], unfollowed := true, recurses := true, named := ["unicode/utf8.first", "unicode/utf8.acceptRanges", "unicode.CaseRanges"], apart := false, laid := [("unicode/utf8.acceptRanges", laid_unicode_utf8_acceptRanges), ("unicode.CaseRanges", laid_unicode_CaseRanges), ("unicode/utf8.first", laid_unicode_utf8_first)] }
def LexPasGreatSaid : Prop := lexPasGreatRow.holds Tryd.pinned (OpenSpec.ofChange lexPasGreatSpec)

/-- ITS FALSE NEIGHBOUR: 'it returns false'. Refute it at one input. -/
def lexPasGreatWrong : ChangeSpec := { name := "lexPasGreat", fn := fun _ => fun
  | [d] => { results := [.lit (.bool false)], args := [d] }
  | _ => none }
def LexPasGreatWrongFalsely : Prop := lexPasGreatRow.holds Tryd.pinned (OpenSpec.ofChange lexPasGreatWrong)

/-- 'pantographlaw05.LexPasPlaces': WHATEVER THE INPUT: true; the input reads as it did. -/
def lexPasPlacesSpec : ChangeSpec := { name := "lexPasPlaces", fn := fun _ => fun
  | [d] => { results := [.lit (.bool true)], args := [d] }
  | _ => none }
def lexPasPlacesRow : OpenClaim := { program := "ytjdmaindoohmkaadoor", sum := "4dcf11da84465d6b239d4c9684a5f20f388146296f36990600e6bc5387dbdb67", func := "pantograph/pantographlaw05.LexPasPlaces", spec := "lexPasPlaces", inPlace := ["internal/bytealg.IndexByteString", "internal/abi.NoEscape", "internal/bytealg.MakeNoZero"], unfollowed := true, recurses := true, named := ["unicode/utf8.first", "unicode/utf8.acceptRanges", "unicode.CaseRanges"], apart := false, laid := [("unicode/utf8.acceptRanges", laid_unicode_utf8_acceptRanges), ("unicode.CaseRanges", laid_unicode_CaseRanges), ("unicode/utf8.first", laid_unicode_utf8_first)] }
def LexPasPlacesSaid : Prop := lexPasPlacesRow.holds Tryd.pinned (OpenSpec.ofChange lexPasPlacesSpec)

/-- ITS FALSE NEIGHBOUR: 'it returns false'. Refute it at one input. -/
def lexPasPlacesWrong : ChangeSpec := { name := "lexPasPlaces", fn := fun _ => fun
  | [d] => { results := [.lit (.bool false)], args := [d] }
  | _ => none }
def LexPasPlacesWrongFalsely : Prop := lexPasPlacesRow.holds Tryd.pinned (OpenSpec.ofChange lexPasPlacesWrong)

/-- 'pantographlaw05.LexPasJoins': WHATEVER THE INPUT: true; the input reads as it did. -/
def lexPasJoinsSpec : ChangeSpec := { name := "lexPasJoins", fn := fun _ => fun
  | [d1, d2] => { results := [.lit (.bool true)], args := [d1, d2] }
  | _ => none }
def lexPasJoinsRow : OpenClaim := { program := "ytjdmaindoohmkaadoor", sum := "4dcf11da84465d6b239d4c9684a5f20f388146296f36990600e6bc5387dbdb67", func := "pantograph/pantographlaw05.LexPasJoins", spec := "lexPasJoins", inPlace := ["internal/bytealg.IndexByteString", "internal/abi.NoEscape", "internal/bytealg.MakeNoZero"], unfollowed := true, recurses := true, named := ["unicode/utf8.first", "unicode/utf8.acceptRanges", "unicode.CaseRanges"], apart := false, laid := [("unicode/utf8.acceptRanges", laid_unicode_utf8_acceptRanges), ("unicode.CaseRanges", laid_unicode_CaseRanges), ("unicode/utf8.first", laid_unicode_utf8_first)] }
def LexPasJoinsSaid : Prop := lexPasJoinsRow.holds Tryd.pinned (OpenSpec.ofChange lexPasJoinsSpec)

/-- ITS FALSE NEIGHBOUR: 'it returns false'. Refute it at one input. -/
def lexPasJoinsWrong : ChangeSpec := { name := "lexPasJoins", fn := fun _ => fun
  | [d1, d2] => { results := [.lit (.bool false)], args := [d1, d2] }
  | _ => none }
def LexPasJoinsWrongFalsely : Prop := lexPasJoinsRow.holds Tryd.pinned (OpenSpec.ofChange lexPasJoinsWrong)

/-- 'pantographlaw06.LexCeeBlanks': WHATEVER THE INPUT: true; the input reads as it did. -/
def lexCeeBlanksSpec : ChangeSpec := { name := "lexCeeBlanks", fn := fun _ => fun
  | [d1, d2] => { results := [.lit (.bool true)], args := [d1, d2] }
  | _ => none }
def lexCeeBlanksRow : OpenClaim := { program := "ytjdmaindoohmkaadoor", sum := "4dcf11da84465d6b239d4c9684a5f20f388146296f36990600e6bc5387dbdb67", func := "pantograph/pantographlaw06.LexCeeBlanks", spec := "lexCeeBlanks", inPlace := ["internal/bytealg.IndexByteString", "internal/abi.NoEscape", "internal/bytealg.MakeNoZero"], unfollowed := true, recurses := true, named := ["strconv.ErrSyntax", "strconv.ErrRange", "internal/strconv.uint64pow10", "math/bits.deBruijn32tab", "math/bits.deBruijn64tab"], apart := false, laid := [("math/bits.deBruijn32tab", laid_math_bits_deBruijn32tab), ("math/bits.deBruijn64tab", laid_math_bits_deBruijn64tab), ("internal/strconv.uint64pow10", laid_internal_strconv_uint64pow10), ("strconv.ErrRange", laid_strconv_ErrRange), ("strconv.ErrSyntax", laid_strconv_ErrSyntax)] }
def LexCeeBlanksSaid : Prop := lexCeeBlanksRow.holds Tryd.pinned (OpenSpec.ofChange lexCeeBlanksSpec)

/-- ITS FALSE NEIGHBOUR: 'it returns false'. Refute it at one input. -/
def lexCeeBlanksWrong : ChangeSpec := { name := "lexCeeBlanks", fn := fun _ => fun
  | [d1, d2] => { results := [.lit (.bool false)], args := [d1, d2] }
  | _ => none }
def LexCeeBlanksWrongFalsely : Prop := lexCeeBlanksRow.holds Tryd.pinned (OpenSpec.ofChange lexCeeBlanksWrong)

/-- 'pantographlaw06.LexCeeChars': WHATEVER THE INPUT: true; the input reads as it did. -/
def lexCeeCharsSpec : ChangeSpec := { name := "lexCeeChars", fn := fun _ => fun
  | [d1, d2] => { results := [.lit (.bool true)], args := [d1, d2] }
  | _ => none }
def lexCeeCharsRow : OpenClaim := { program := "ytjdmaindoohmkaadoor", sum := "4dcf11da84465d6b239d4c9684a5f20f388146296f36990600e6bc5387dbdb67", func := "pantograph/pantographlaw06.LexCeeChars", spec := "lexCeeChars", inPlace := ["internal/bytealg.IndexByteString", "internal/abi.NoEscape", "internal/bytealg.MakeNoZero"], unfollowed := true, recurses := true, named := ["strconv.ErrSyntax", "strconv.ErrRange", "internal/strconv.uint64pow10", "math/bits.deBruijn32tab", "math/bits.deBruijn64tab"], apart := false, laid := [("math/bits.deBruijn32tab", laid_math_bits_deBruijn32tab), ("math/bits.deBruijn64tab", laid_math_bits_deBruijn64tab), ("internal/strconv.uint64pow10", laid_internal_strconv_uint64pow10), ("strconv.ErrRange", laid_strconv_ErrRange), ("strconv.ErrSyntax", laid_strconv_ErrSyntax)] }
def LexCeeCharsSaid : Prop := lexCeeCharsRow.holds Tryd.pinned (OpenSpec.ofChange lexCeeCharsSpec)

/-- ITS FALSE NEIGHBOUR: 'it returns false'. Refute it at one input. -/
def lexCeeCharsWrong : ChangeSpec := { name := "lexCeeChars", fn := fun _ => fun
  | [d1, d2] => { results := [.lit (.bool false)], args := [d1, d2] }
  | _ => none }
def LexCeeCharsWrongFalsely : Prop := lexCeeCharsRow.holds Tryd.pinned (OpenSpec.ofChange lexCeeCharsWrong)

/-- 'pantographlaw06.LexCeePlaces': WHATEVER THE INPUT: true; the input reads as it did. -/
def lexCeePlacesSpec : ChangeSpec := { name := "lexCeePlaces", fn := fun _ => fun
  | [d] => { results := [.lit (.bool true)], args := [d] }
  | _ => none }
def lexCeePlacesRow : OpenClaim := { program := "ytjdmaindoohmkaadoor", sum := "4dcf11da84465d6b239d4c9684a5f20f388146296f36990600e6bc5387dbdb67", func := "pantograph/pantographlaw06.LexCeePlaces", spec := "lexCeePlaces", inPlace := ["internal/bytealg.IndexByteString", "internal/abi.NoEscape", "internal/bytealg.MakeNoZero"], unfollowed := true, recurses := true, named := ["strconv.ErrSyntax", "strconv.ErrRange", "internal/strconv.uint64pow10", "math/bits.deBruijn32tab", "math/bits.deBruijn64tab"], apart := false, laid := [("math/bits.deBruijn32tab", laid_math_bits_deBruijn32tab), ("math/bits.deBruijn64tab", laid_math_bits_deBruijn64tab), ("internal/strconv.uint64pow10", laid_internal_strconv_uint64pow10), ("strconv.ErrRange", laid_strconv_ErrRange), ("strconv.ErrSyntax", laid_strconv_ErrSyntax)] }
def LexCeePlacesSaid : Prop := lexCeePlacesRow.holds Tryd.pinned (OpenSpec.ofChange lexCeePlacesSpec)

/-- ITS FALSE NEIGHBOUR: 'it returns false'. Refute it at one input. -/
def lexCeePlacesWrong : ChangeSpec := { name := "lexCeePlaces", fn := fun _ => fun
  | [d] => { results := [.lit (.bool false)], args := [d] }
  | _ => none }
def LexCeePlacesWrongFalsely : Prop := lexCeePlacesRow.holds Tryd.pinned (OpenSpec.ofChange lexCeePlacesWrong)

/-- 'pantographlaw06.LexCeeJoins': WHATEVER THE INPUT: true; the input reads as it did. -/
def lexCeeJoinsSpec : ChangeSpec := { name := "lexCeeJoins", fn := fun _ => fun
  | [d1, d2] => { results := [.lit (.bool true)], args := [d1, d2] }
  | _ => none }
def lexCeeJoinsRow : OpenClaim := { program := "ytjdmaindoohmkaadoor", sum := "4dcf11da84465d6b239d4c9684a5f20f388146296f36990600e6bc5387dbdb67", func := "pantograph/pantographlaw06.LexCeeJoins", spec := "lexCeeJoins", inPlace := ["internal/bytealg.IndexByteString", "internal/abi.NoEscape", "internal/bytealg.MakeNoZero"], unfollowed := true, recurses := true, named := ["strconv.ErrSyntax", "strconv.ErrRange", "internal/strconv.uint64pow10", "math/bits.deBruijn32tab", "math/bits.deBruijn64tab"], apart := false, laid := [("math/bits.deBruijn32tab", laid_math_bits_deBruijn32tab), ("math/bits.deBruijn64tab", laid_math_bits_deBruijn64tab), ("internal/strconv.uint64pow10", laid_internal_strconv_uint64pow10), ("strconv.ErrRange", laid_strconv_ErrRange), ("strconv.ErrSyntax", laid_strconv_ErrSyntax)] }
def LexCeeJoinsSaid : Prop := lexCeeJoinsRow.holds Tryd.pinned (OpenSpec.ofChange lexCeeJoinsSpec)

/-- ITS FALSE NEIGHBOUR: 'it returns false'. Refute it at one input. -/
def lexCeeJoinsWrong : ChangeSpec := { name := "lexCeeJoins", fn := fun _ => fun
  | [d1, d2] => { results := [.lit (.bool false)], args := [d1, d2] }
  | _ => none }
def LexCeeJoinsWrongFalsely : Prop := lexCeeJoinsRow.holds Tryd.pinned (OpenSpec.ofChange lexCeeJoinsWrong)

/- THE SECOND FORM. 'bulk': how many values and letters a reading holds, each counted each time it is reached (what is shared counts as often as it is met; a slice's spare places count too). A statement '..UptoSaid' is the law's where the arguments, and the package variables that the reading takes, are together of bulk at most 1048576: NARROWER than '..Said'. Prove '..Said' where nothing that the law and all that it calls make is longer than what came in: it says more and counts as full. Else prove '..UptoSaid'. A law counts once. -/
mutual
def uptoBulk {H : Type} : DataW H → Nat
  | .lit (.string bytes) => bytes.length + 1
  | .lit _ => 1
  | .nil => 1
  | .ptr d => uptoBulk d + 1
  | .slice elems spare => uptoBulkAll elems + uptoBulkAll spare + 1
  | .agg parts => uptoBulkAll parts + 1
  | .iface _ d => uptoBulk d + 1
  | .map entries => uptoBulkEntries entries + 1
  | .held _ => 1
def uptoBulkAll {H : Type} : List (DataW H) → Nat
  | [] => 0
  | d :: r => uptoBulk d + uptoBulkAll r
def uptoBulkEntries {H : Type} : List (Lit × DataW H) → Nat
  | [] => 0
  | x :: r => uptoBulkEntry x + uptoBulkEntries r
def uptoBulkEntry {H : Type} : Lit × DataW H → Nat
  | (.string bytes, d) => bytes.length + uptoBulk d + 1
  | (_, d) => uptoBulk d + 1
 end
def uptoSmall : (H : Type) → List (DataW H) → Bool := fun _ ds => decide (uptoBulkAll ds ≤ 1048576)
def OpenSpec.upto (s : _root_.Go.ChangeSpec) : _root_.Go.OpenSpec := { _root_.Go.OpenSpec.ofChange s with cond := some uptoSmall }

/-- 'pantographlaw05.LexPasReads', WHERE WHAT IT READS IS OF BULK AT MOST 1048576: true; the input reads as it did. -/
def lexPasReadsUptoRow : OpenClaim := { program := "ytjdmaindoohmkaadoor", sum := "4dcf11da84465d6b239d4c9684a5f20f388146296f36990600e6bc5387dbdb67", func := "pantograph/pantographlaw05.LexPasReads", spec := "lexPasReads", inPlace := ["internal/bytealg.IndexByteString", "internal/abi.NoEscape", "internal/bytealg.MakeNoZero"], unfollowed := true, recurses := true, named := ["unicode/utf8.first", "unicode/utf8.acceptRanges", "unicode.CaseRanges"], apart := false, laid := [("unicode/utf8.acceptRanges", laid_unicode_utf8_acceptRanges), ("unicode.CaseRanges", laid_unicode_CaseRanges), ("unicode/utf8.first", laid_unicode_utf8_first)], narrowed := true }
def LexPasReadsUptoSaid : Prop := lexPasReadsUptoRow.holds Tryd.pinned (OpenSpec.upto lexPasReadsSpec)

/-- 'pantographlaw05.LexPasBlanks', WHERE WHAT IT READS IS OF BULK AT MOST 1048576: true; the input reads as it did. -/
def lexPasBlanksUptoRow : OpenClaim := { program := "ytjdmaindoohmkaadoor", sum := "4dcf11da84465d6b239d4c9684a5f20f388146296f36990600e6bc5387dbdb67", func := "pantograph/pantographlaw05.LexPasBlanks", spec := "lexPasBlanks", inPlace := ["internal/bytealg.IndexByteString", "internal/abi.NoEscape", "internal/bytealg.MakeNoZero"], unfollowed := true, recurses := true, named := ["unicode/utf8.first", "unicode/utf8.acceptRanges", "unicode.CaseRanges"], apart := false, laid := [("unicode/utf8.acceptRanges", laid_unicode_utf8_acceptRanges), ("unicode.CaseRanges", laid_unicode_CaseRanges), ("unicode/utf8.first", laid_unicode_utf8_first)], narrowed := true }
def LexPasBlanksUptoSaid : Prop := lexPasBlanksUptoRow.holds Tryd.pinned (OpenSpec.upto lexPasBlanksSpec)

/-- 'pantographlaw05.LexPasGreat', WHERE WHAT IT READS IS OF BULK AT MOST 1048576: true; the input reads as it did. -/
def lexPasGreatUptoRow : OpenClaim := { program := "ytjdmaindoohmkaadoor", sum := "4dcf11da84465d6b239d4c9684a5f20f388146296f36990600e6bc5387dbdb67", func := "pantograph/pantographlaw05.LexPasGreat", spec := "lexPasGreat", inPlace := ["internal/bytealg.IndexByteString", "internal/abi.NoEscape", "internal/bytealg.MakeNoZero"], unfollowed := true, recurses := true, named := ["unicode/utf8.first", "unicode/utf8.acceptRanges", "unicode.CaseRanges"], apart := false, laid := [("unicode/utf8.acceptRanges", laid_unicode_utf8_acceptRanges), ("unicode.CaseRanges", laid_unicode_CaseRanges), ("unicode/utf8.first", laid_unicode_utf8_first)], narrowed := true }
def LexPasGreatUptoSaid : Prop := lexPasGreatUptoRow.holds Tryd.pinned (OpenSpec.upto lexPasGreatSpec)

/-- 'pantographlaw05.LexPasPlaces', WHERE WHAT IT READS IS OF BULK AT MOST 1048576: true; the input reads as it did. -/
def lexPasPlacesUptoRow : OpenClaim := { program := "ytjdmaindoohmkaadoor", sum := "4dcf11da84465d6b239d4c9684a5f20f388146296f36990600e6bc5387dbdb67", func := "pantograph/pantographlaw05.LexPasPlaces", spec := "lexPasPlaces", inPlace := ["internal/bytealg.IndexByteString", "internal/abi.NoEscape", "internal/bytealg.MakeNoZero"], unfollowed := true, recurses := true, named := ["unicode/utf8.first", "unicode/utf8.acceptRanges", "unicode.CaseRanges"], apart := false, laid := [("unicode/utf8.acceptRanges", laid_unicode_utf8_acceptRanges), ("unicode.CaseRanges", laid_unicode_CaseRanges), ("unicode/utf8.first", laid_unicode_utf8_first)], narrowed := true }
def LexPasPlacesUptoSaid : Prop := lexPasPlacesUptoRow.holds Tryd.pinned (OpenSpec.upto lexPasPlacesSpec)

/-- 'pantographlaw05.LexPasJoins', WHERE WHAT IT READS IS OF BULK AT MOST 1048576: true; the input reads as it did. -/
def lexPasJoinsUptoRow : OpenClaim := { program := "ytjdmaindoohmkaadoor", sum := "4dcf11da84465d6b239d4c9684a5f20f388146296f36990600e6bc5387dbdb67", func := "pantograph/pantographlaw05.LexPasJoins", spec := "lexPasJoins", inPlace := ["internal/bytealg.IndexByteString", "internal/abi.NoEscape", "internal/bytealg.MakeNoZero"], unfollowed := true, recurses := true, named := ["unicode/utf8.first", "unicode/utf8.acceptRanges", "unicode.CaseRanges"], apart := false, laid := [("unicode/utf8.acceptRanges", laid_unicode_utf8_acceptRanges), ("unicode.CaseRanges", laid_unicode_CaseRanges), ("unicode/utf8.first", laid_unicode_utf8_first)], narrowed := true }
def LexPasJoinsUptoSaid : Prop := lexPasJoinsUptoRow.holds Tryd.pinned (OpenSpec.upto lexPasJoinsSpec)

/-- 'pantographlaw06.LexCeeBlanks', WHERE WHAT IT READS IS OF BULK AT MOST 1048576: true; the input reads as it did. -/
def lexCeeBlanksUptoRow : OpenClaim := { program := "ytjdmaindoohmkaadoor", sum := "4dcf11da84465d6b239d4c9684a5f20f388146296f36990600e6bc5387dbdb67", func := "pantograph/pantographlaw06.LexCeeBlanks", spec := "lexCeeBlanks", inPlace := ["internal/bytealg.IndexByteString", "internal/abi.NoEscape", "internal/bytealg.MakeNoZero"], unfollowed := true, recurses := true, named := ["strconv.ErrSyntax", "strconv.ErrRange", "internal/strconv.uint64pow10", "math/bits.deBruijn32tab", "math/bits.deBruijn64tab"], apart := false, laid := [("math/bits.deBruijn32tab", laid_math_bits_deBruijn32tab), ("math/bits.deBruijn64tab", laid_math_bits_deBruijn64tab), ("internal/strconv.uint64pow10", laid_internal_strconv_uint64pow10), ("strconv.ErrRange", laid_strconv_ErrRange), ("strconv.ErrSyntax", laid_strconv_ErrSyntax)], narrowed := true }
def LexCeeBlanksUptoSaid : Prop := lexCeeBlanksUptoRow.holds Tryd.pinned (OpenSpec.upto lexCeeBlanksSpec)

/-- 'pantographlaw06.LexCeeChars', WHERE WHAT IT READS IS OF BULK AT MOST 1048576: true; the input reads as it did. -/
def lexCeeCharsUptoRow : OpenClaim := { program := "ytjdmaindoohmkaadoor", sum := "4dcf11da84465d6b239d4c9684a5f20f388146296f36990600e6bc5387dbdb67", func := "pantograph/pantographlaw06.LexCeeChars", spec := "lexCeeChars", inPlace := ["internal/bytealg.IndexByteString", "internal/abi.NoEscape", "internal/bytealg.MakeNoZero"], unfollowed := true, recurses := true, named := ["strconv.ErrSyntax", "strconv.ErrRange", "internal/strconv.uint64pow10", "math/bits.deBruijn32tab", "math/bits.deBruijn64tab"], apart := false, laid := [("math/bits.deBruijn32tab", laid_math_bits_deBruijn32tab), ("math/bits.deBruijn64tab", laid_math_bits_deBruijn64tab), ("internal/strconv.uint64pow10", laid_internal_strconv_uint64pow10), ("strconv.ErrRange", laid_strconv_ErrRange), ("strconv.ErrSyntax", laid_strconv_ErrSyntax)], narrowed := true }
def LexCeeCharsUptoSaid : Prop := lexCeeCharsUptoRow.holds Tryd.pinned (OpenSpec.upto lexCeeCharsSpec)

/-- 'pantographlaw06.LexCeePlaces', WHERE WHAT IT READS IS OF BULK AT MOST 1048576: true; the input reads as it did. -/
def lexCeePlacesUptoRow : OpenClaim := { program := "ytjdmaindoohmkaadoor", sum := "4dcf11da84465d6b239d4c9684a5f20f388146296f36990600e6bc5387dbdb67", func := "pantograph/pantographlaw06.LexCeePlaces", spec := "lexCeePlaces", inPlace := ["internal/bytealg.IndexByteString", "internal/abi.NoEscape", "internal/bytealg.MakeNoZero"], unfollowed := true, recurses := true, named := ["strconv.ErrSyntax", "strconv.ErrRange", "internal/strconv.uint64pow10", "math/bits.deBruijn32tab", "math/bits.deBruijn64tab"], apart := false, laid := [("math/bits.deBruijn32tab", laid_math_bits_deBruijn32tab), ("math/bits.deBruijn64tab", laid_math_bits_deBruijn64tab), ("internal/strconv.uint64pow10", laid_internal_strconv_uint64pow10), ("strconv.ErrRange", laid_strconv_ErrRange), ("strconv.ErrSyntax", laid_strconv_ErrSyntax)], narrowed := true }
def LexCeePlacesUptoSaid : Prop := lexCeePlacesUptoRow.holds Tryd.pinned (OpenSpec.upto lexCeePlacesSpec)

/-- 'pantographlaw06.LexCeeJoins', WHERE WHAT IT READS IS OF BULK AT MOST 1048576: true; the input reads as it did. -/
def lexCeeJoinsUptoRow : OpenClaim := { program := "ytjdmaindoohmkaadoor", sum := "4dcf11da84465d6b239d4c9684a5f20f388146296f36990600e6bc5387dbdb67", func := "pantograph/pantographlaw06.LexCeeJoins", spec := "lexCeeJoins", inPlace := ["internal/bytealg.IndexByteString", "internal/abi.NoEscape", "internal/bytealg.MakeNoZero"], unfollowed := true, recurses := true, named := ["strconv.ErrSyntax", "strconv.ErrRange", "internal/strconv.uint64pow10", "math/bits.deBruijn32tab", "math/bits.deBruijn64tab"], apart := false, laid := [("math/bits.deBruijn32tab", laid_math_bits_deBruijn32tab), ("math/bits.deBruijn64tab", laid_math_bits_deBruijn64tab), ("internal/strconv.uint64pow10", laid_internal_strconv_uint64pow10), ("strconv.ErrRange", laid_strconv_ErrRange), ("strconv.ErrSyntax", laid_strconv_ErrSyntax)], narrowed := true }
def LexCeeJoinsUptoSaid : Prop := lexCeeJoinsUptoRow.holds Tryd.pinned (OpenSpec.upto lexCeeJoinsSpec)

end Rows
end Go.Proofs.YtjdmaindoohmkaaDoor
