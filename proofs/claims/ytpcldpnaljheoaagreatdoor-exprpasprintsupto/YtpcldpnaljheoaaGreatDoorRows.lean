/-
  NARROWER THAN 'FOR EVERY INPUT', by the rows' own cells (each row's printed sentence says how): ExprPasReads: laid · ExprPasPrints: loops, laid · ExprPasBack: loops, laid · ExprPasLeast: loops, laid · ExprPasGroups: laid · ExprPasWhole: laid.
  DERIVED. THE GIVEN ROWS OF THIS SEAT. 6 by the template 'for every input the law returns true; each argument reads behind the call as it read before'; 0 by the template 'total and deterministic' (their statements: YtpcldpnaljheoaaGreatDoorTotals.lean).
  GIVEN WITH THE SEED: the statements are not yours to turn. If you find one false, say at which input.
  Laid BY PROGRAM, IN A SANDBOX (cutbox-rows.mjs): the forced cells as the released guide's own fill.sh prints them over the translation 9cb313cb470614e1… (all of the seat's roots in one cut). By AI agents, Wed Nov 11 2026. No macro, syntax, notation, axiom, sorry.
-/
import Derived.Test.YtpcldpnaljheoaaGreatDoorChecked
import GoSem.PinnedTables
import GoSem.Claim
import GoSem.ClaimJoined
import GoSem.ClaimMapViews
import Derived.JoinedTies
import Derived.KernelRfl
namespace Go.Proofs.YtpcldpnaljheoaaGreatDoor
/- THE CELL 'sum', in the pinned program and in every row, IS THE sha256 OF THE DUMP (.gsa) THAT YtpcldpnaljheoaaGreatDoorProg.lean LOADS. Nothing in Lean hashes anything: it is a label: what it is worth is what the hold of that sum in a sandbox is worth. -/
noncomputable def Tryz.pinned : Pinned := { name := "ytpcldpnaljheoaagreatdoor", sum := "9cb313cb470614e1c0cffd2dfec6a428c2a5e7860e21f9e5262315e2f88405c5", checked := Tryz.checked }
namespace Rows
def none {H : Type} : Left H := { results := [], args := [] }

/- WHAT THE LISTED PACKAGE-LEVEL VARIABLES READ AS WHEN THE CALL BEGINS. Each datum BY PROGRAM (the guide's laid-datum.mjs) off the statement by which the dump's own 'gosem.cut.vars' lays the variable. In a bare row this is a premise. The card (YtpcldpnaljheoaaGreatDoorCards.lean) ties it to the program's text. -/
def laid_math_bits_deBruijn32tab {H : Type} : DataW H := .agg [.lit (.int .u8 0), .lit (.int .u8 1), .lit (.int .u8 28), .lit (.int .u8 2), .lit (.int .u8 29), .lit (.int .u8 14), .lit (.int .u8 24), .lit (.int .u8 3), .lit (.int .u8 30), .lit (.int .u8 22), .lit (.int .u8 20), .lit (.int .u8 15), .lit (.int .u8 25), .lit (.int .u8 17), .lit (.int .u8 4), .lit (.int .u8 8), .lit (.int .u8 31), .lit (.int .u8 27), .lit (.int .u8 13), .lit (.int .u8 23), .lit (.int .u8 21), .lit (.int .u8 19), .lit (.int .u8 16), .lit (.int .u8 7), .lit (.int .u8 26), .lit (.int .u8 12), .lit (.int .u8 18), .lit (.int .u8 6), .lit (.int .u8 11), .lit (.int .u8 5), .lit (.int .u8 10), .lit (.int .u8 9)]
def laid_math_bits_deBruijn64tab {H : Type} : DataW H := .agg [.lit (.int .u8 0), .lit (.int .u8 1), .lit (.int .u8 56), .lit (.int .u8 2), .lit (.int .u8 57), .lit (.int .u8 49), .lit (.int .u8 28), .lit (.int .u8 3), .lit (.int .u8 61), .lit (.int .u8 58), .lit (.int .u8 42), .lit (.int .u8 50), .lit (.int .u8 38), .lit (.int .u8 29), .lit (.int .u8 17), .lit (.int .u8 4), .lit (.int .u8 62), .lit (.int .u8 47), .lit (.int .u8 59), .lit (.int .u8 36), .lit (.int .u8 45), .lit (.int .u8 43), .lit (.int .u8 51), .lit (.int .u8 22), .lit (.int .u8 53), .lit (.int .u8 39), .lit (.int .u8 33), .lit (.int .u8 30), .lit (.int .u8 24), .lit (.int .u8 18), .lit (.int .u8 12), .lit (.int .u8 5), .lit (.int .u8 63), .lit (.int .u8 55), .lit (.int .u8 48), .lit (.int .u8 27), .lit (.int .u8 60), .lit (.int .u8 41), .lit (.int .u8 37), .lit (.int .u8 16), .lit (.int .u8 46), .lit (.int .u8 35), .lit (.int .u8 44), .lit (.int .u8 21), .lit (.int .u8 52), .lit (.int .u8 32), .lit (.int .u8 23), .lit (.int .u8 11), .lit (.int .u8 54), .lit (.int .u8 26), .lit (.int .u8 40), .lit (.int .u8 15), .lit (.int .u8 34), .lit (.int .u8 20), .lit (.int .u8 31), .lit (.int .u8 10), .lit (.int .u8 25), .lit (.int .u8 14), .lit (.int .u8 19), .lit (.int .u8 9), .lit (.int .u8 13), .lit (.int .u8 8), .lit (.int .u8 7), .lit (.int .u8 6)]
def laid_internal_strconv_uint64pow10 {H : Type} : DataW H := .agg [.lit (.int .u64 1), .lit (.int .u64 10), .lit (.int .u64 100), .lit (.int .u64 1000), .lit (.int .u64 10000), .lit (.int .u64 100000), .lit (.int .u64 1000000), .lit (.int .u64 10000000), .lit (.int .u64 100000000), .lit (.int .u64 1000000000), .lit (.int .u64 10000000000), .lit (.int .u64 100000000000), .lit (.int .u64 1000000000000), .lit (.int .u64 10000000000000), .lit (.int .u64 100000000000000), .lit (.int .u64 1000000000000000), .lit (.int .u64 10000000000000000), .lit (.int .u64 100000000000000000), .lit (.int .u64 1000000000000000000), .lit (.int .u64 10000000000000000000)]
def laid_unicode_utf8_acceptRanges {H : Type} : DataW H := .agg [.agg [.lit (.int .u8 128), .lit (.int .u8 191)], .agg [.lit (.int .u8 160), .lit (.int .u8 191)], .agg [.lit (.int .u8 128), .lit (.int .u8 159)], .agg [.lit (.int .u8 144), .lit (.int .u8 191)], .agg [.lit (.int .u8 128), .lit (.int .u8 143)], .agg [.lit (.int .u8 0), .lit (.int .u8 0)], .agg [.lit (.int .u8 0), .lit (.int .u8 0)], .agg [.lit (.int .u8 0), .lit (.int .u8 0)], .agg [.lit (.int .u8 0), .lit (.int .u8 0)], .agg [.lit (.int .u8 0), .lit (.int .u8 0)], .agg [.lit (.int .u8 0), .lit (.int .u8 0)], .agg [.lit (.int .u8 0), .lit (.int .u8 0)], .agg [.lit (.int .u8 0), .lit (.int .u8 0)], .agg [.lit (.int .u8 0), .lit (.int .u8 0)], .agg [.lit (.int .u8 0), .lit (.int .u8 0)], .agg [.lit (.int .u8 0), .lit (.int .u8 0)]]
def laid_pantograph_expr_truths {H : Type} : DataW H := .agg [.lit (.string [102, 97, 108, 115, 101]), .lit (.string [116, 114, 117, 101])]
def laid_pantograph_exprpas_signs {H : Type} : DataW H := .agg [.lit (.string []), .lit (.string []), .lit (.string []), .lit (.string []), .lit (.string []), .lit (.string []), .lit (.string []), .lit (.string []), .lit (.string []), .lit (.string []), .lit (.string [42]), .lit (.string [100, 105, 118]), .lit (.string [109, 111, 100]), .lit (.string [97, 110, 100]), .lit (.string [97, 110, 100, 32, 116, 104, 101, 110]), .lit (.string [43]), .lit (.string [45]), .lit (.string [111, 114]), .lit (.string [111, 114, 32, 101, 108, 115, 101]), .lit (.string [61]), .lit (.string [60, 62]), .lit (.string [60]), .lit (.string [60, 61]), .lit (.string [62]), .lit (.string [62, 61])]
/-- One of Go's own tables, pinned by name: the form's constant. -/
def laid_unicode_CaseRanges : DataW Unit := Go.Pinned.caseRanges
/-- One of Go's own tables, pinned by name: the form's constant. -/
def laid_unicode_utf8_first : DataW Unit := Go.Pinned.utf8First

/-- 'pantographlaw08.ExprPasReads': WHATEVER THE INPUT: true; the input reads as it did. -/
def exprPasReadsSpec : ChangeSpec := { name := "exprPasReads", fn := fun _ => fun
  | [d] => { results := [.lit (.bool true)], args := [d] }
  | _ => none }
def exprPasReadsRow : OpenClaim := { program := "ytpcldpnaljheoaagreatdoor", sum := "9cb313cb470614e1c0cffd2dfec6a428c2a5e7860e21f9e5262315e2f88405c5", func := "pantograph/pantographlaw08.ExprPasReads", spec := "exprPasReads", inPlace := ["internal/bytealg.IndexByteString", "internal/abi.NoEscape", "internal/bytealg.MakeNoZero", "internal/bytealg.IndexString"], unfollowed := true, recurses := true, named := ["unicode/utf8.first", "unicode/utf8.acceptRanges", "unicode.CaseRanges", "pantograph/expr.truths", "pantograph/exprpas.signs", "internal/strconv.uint64pow10", "math/bits.deBruijn32tab", "math/bits.deBruijn64tab", "internal/bytealg.MaxLen"], apart := false, laid := [("math/bits.deBruijn32tab", laid_math_bits_deBruijn32tab), ("math/bits.deBruijn64tab", laid_math_bits_deBruijn64tab), ("internal/strconv.uint64pow10", laid_internal_strconv_uint64pow10), ("unicode/utf8.acceptRanges", laid_unicode_utf8_acceptRanges), ("pantograph/expr.truths", laid_pantograph_expr_truths), ("pantograph/exprpas.signs", laid_pantograph_exprpas_signs), ("unicode.CaseRanges", laid_unicode_CaseRanges), ("unicode/utf8.first", laid_unicode_utf8_first)] }
def ExprPasReadsSaid : Prop := exprPasReadsRow.holds Tryz.pinned (OpenSpec.ofChange exprPasReadsSpec)

/-- ITS FALSE NEIGHBOUR: 'it returns false'. Refute it at one input. -/
def exprPasReadsWrong : ChangeSpec := { name := "exprPasReads", fn := fun _ => fun
  | [d] => { results := [.lit (.bool false)], args := [d] }
  | _ => none }
def ExprPasReadsWrongFalsely : Prop := exprPasReadsRow.holds Tryz.pinned (OpenSpec.ofChange exprPasReadsWrong)

/-- 'pantographlaw08.ExprPasPrints': WHATEVER THE INPUT: true; the input reads as it did. -/
def exprPasPrintsSpec : ChangeSpec := { name := "exprPasPrints", fn := fun _ => fun
  | [d] => { results := [.lit (.bool true)], args := [d] }
  | _ => none }
def exprPasPrintsRow : OpenClaim := { program := "ytpcldpnaljheoaagreatdoor", sum := "9cb313cb470614e1c0cffd2dfec6a428c2a5e7860e21f9e5262315e2f88405c5", func := "pantograph/pantographlaw08.ExprPasPrints", spec := "exprPasPrints", inPlace := ["internal/bytealg.IndexByteString", "internal/bytealg.IndexString", "internal/abi.NoEscape", "internal/bytealg.MakeNoZero"], unfollowed := true, recurses := true, named := ["pantograph/exprpas.signs", "internal/strconv.uint64pow10", "math/bits.deBruijn32tab", "math/bits.deBruijn64tab", "internal/bytealg.MaxLen", "pantograph/expr.truths", "unicode/utf8.first", "unicode/utf8.acceptRanges", "unicode.CaseRanges"], loops := true, apart := false, laid := [("math/bits.deBruijn32tab", laid_math_bits_deBruijn32tab), ("math/bits.deBruijn64tab", laid_math_bits_deBruijn64tab), ("internal/strconv.uint64pow10", laid_internal_strconv_uint64pow10), ("unicode/utf8.acceptRanges", laid_unicode_utf8_acceptRanges), ("pantograph/expr.truths", laid_pantograph_expr_truths), ("pantograph/exprpas.signs", laid_pantograph_exprpas_signs), ("unicode.CaseRanges", laid_unicode_CaseRanges), ("unicode/utf8.first", laid_unicode_utf8_first)] }
def ExprPasPrintsSaid : Prop := exprPasPrintsRow.holds Tryz.pinned (OpenSpec.ofChange exprPasPrintsSpec)

/-- ITS FALSE NEIGHBOUR: 'it returns false'. Refute it at one input. -/
def exprPasPrintsWrong : ChangeSpec := { name := "exprPasPrints", fn := fun _ => fun
  | [d] => { results := [.lit (.bool false)], args := [d] }
  | _ => none }
def ExprPasPrintsWrongFalsely : Prop := exprPasPrintsRow.holds Tryz.pinned (OpenSpec.ofChange exprPasPrintsWrong)

/-- 'pantographlaw08.ExprPasBack': WHATEVER THE INPUT: true; the input reads as it did. -/
def exprPasBackSpec : ChangeSpec := { name := "exprPasBack", fn := fun _ => fun
  | [d1, d2] => { results := [.lit (.bool true)], args := [d1, d2] }
  | _ => none }
def exprPasBackRow : OpenClaim := { program := "ytpcldpnaljheoaagreatdoor", sum := "9cb313cb470614e1c0cffd2dfec6a428c2a5e7860e21f9e5262315e2f88405c5", func := "pantograph/pantographlaw08.ExprPasBack", spec := "exprPasBack", inPlace := ["internal/bytealg.IndexByteString", "internal/bytealg.IndexString", "internal/abi.NoEscape", "internal/bytealg.MakeNoZero"], unfollowed := true, recurses := true, named := ["pantograph/exprpas.signs", "internal/strconv.uint64pow10", "math/bits.deBruijn32tab", "math/bits.deBruijn64tab", "internal/bytealg.MaxLen", "pantograph/expr.truths", "unicode/utf8.first", "unicode/utf8.acceptRanges", "unicode.CaseRanges"], loops := true, apart := false, laid := [("math/bits.deBruijn32tab", laid_math_bits_deBruijn32tab), ("math/bits.deBruijn64tab", laid_math_bits_deBruijn64tab), ("internal/strconv.uint64pow10", laid_internal_strconv_uint64pow10), ("unicode/utf8.acceptRanges", laid_unicode_utf8_acceptRanges), ("pantograph/expr.truths", laid_pantograph_expr_truths), ("pantograph/exprpas.signs", laid_pantograph_exprpas_signs), ("unicode.CaseRanges", laid_unicode_CaseRanges), ("unicode/utf8.first", laid_unicode_utf8_first)] }
def ExprPasBackSaid : Prop := exprPasBackRow.holds Tryz.pinned (OpenSpec.ofChange exprPasBackSpec)

/-- ITS FALSE NEIGHBOUR: 'it returns false'. Refute it at one input. -/
def exprPasBackWrong : ChangeSpec := { name := "exprPasBack", fn := fun _ => fun
  | [d1, d2] => { results := [.lit (.bool false)], args := [d1, d2] }
  | _ => none }
def ExprPasBackWrongFalsely : Prop := exprPasBackRow.holds Tryz.pinned (OpenSpec.ofChange exprPasBackWrong)

/-- 'pantographlaw08.ExprPasLeast': WHATEVER THE INPUT: true; the input reads as it did. -/
def exprPasLeastSpec : ChangeSpec := { name := "exprPasLeast", fn := fun _ => fun
  | [d] => { results := [.lit (.bool true)], args := [d] }
  | _ => none }
def exprPasLeastRow : OpenClaim := { program := "ytpcldpnaljheoaagreatdoor", sum := "9cb313cb470614e1c0cffd2dfec6a428c2a5e7860e21f9e5262315e2f88405c5", func := "pantograph/pantographlaw08.ExprPasLeast", spec := "exprPasLeast", inPlace := ["internal/bytealg.IndexByteString", "internal/bytealg.IndexString", "internal/abi.NoEscape", "internal/bytealg.MakeNoZero"], unfollowed := true, recurses := true, named := ["pantograph/exprpas.signs", "internal/strconv.uint64pow10", "math/bits.deBruijn32tab", "math/bits.deBruijn64tab", "internal/bytealg.MaxLen", "pantograph/expr.truths", "unicode/utf8.first", "unicode/utf8.acceptRanges", "unicode.CaseRanges"], loops := true, apart := false, laid := [("math/bits.deBruijn32tab", laid_math_bits_deBruijn32tab), ("math/bits.deBruijn64tab", laid_math_bits_deBruijn64tab), ("internal/strconv.uint64pow10", laid_internal_strconv_uint64pow10), ("unicode/utf8.acceptRanges", laid_unicode_utf8_acceptRanges), ("pantograph/expr.truths", laid_pantograph_expr_truths), ("pantograph/exprpas.signs", laid_pantograph_exprpas_signs), ("unicode.CaseRanges", laid_unicode_CaseRanges), ("unicode/utf8.first", laid_unicode_utf8_first)] }
def ExprPasLeastSaid : Prop := exprPasLeastRow.holds Tryz.pinned (OpenSpec.ofChange exprPasLeastSpec)

/-- ITS FALSE NEIGHBOUR: 'it returns false'. Refute it at one input. -/
def exprPasLeastWrong : ChangeSpec := { name := "exprPasLeast", fn := fun _ => fun
  | [d] => { results := [.lit (.bool false)], args := [d] }
  | _ => none }
def ExprPasLeastWrongFalsely : Prop := exprPasLeastRow.holds Tryz.pinned (OpenSpec.ofChange exprPasLeastWrong)

/-- 'pantographlaw08.ExprPasGroups': WHATEVER THE INPUT: true; the input reads as it did. -/
def exprPasGroupsSpec : ChangeSpec := { name := "exprPasGroups", fn := fun _ => fun
  | [d1, d2] => { results := [.lit (.bool true)], args := [d1, d2] }
  | _ => none }
def exprPasGroupsRow : OpenClaim := { program := "ytpcldpnaljheoaagreatdoor", sum := "9cb313cb470614e1c0cffd2dfec6a428c2a5e7860e21f9e5262315e2f88405c5", func := "pantograph/pantographlaw08.ExprPasGroups", spec := "exprPasGroups", inPlace := ["internal/bytealg.IndexByteString", "internal/abi.NoEscape", "internal/bytealg.MakeNoZero", "internal/bytealg.IndexString"], unfollowed := true, recurses := true, named := ["unicode/utf8.first", "unicode/utf8.acceptRanges", "unicode.CaseRanges", "pantograph/expr.truths", "pantograph/exprpas.signs", "internal/strconv.uint64pow10", "math/bits.deBruijn32tab", "math/bits.deBruijn64tab", "internal/bytealg.MaxLen"], apart := false, laid := [("math/bits.deBruijn32tab", laid_math_bits_deBruijn32tab), ("math/bits.deBruijn64tab", laid_math_bits_deBruijn64tab), ("internal/strconv.uint64pow10", laid_internal_strconv_uint64pow10), ("unicode/utf8.acceptRanges", laid_unicode_utf8_acceptRanges), ("pantograph/expr.truths", laid_pantograph_expr_truths), ("pantograph/exprpas.signs", laid_pantograph_exprpas_signs), ("unicode.CaseRanges", laid_unicode_CaseRanges), ("unicode/utf8.first", laid_unicode_utf8_first)] }
def ExprPasGroupsSaid : Prop := exprPasGroupsRow.holds Tryz.pinned (OpenSpec.ofChange exprPasGroupsSpec)

/-- ITS FALSE NEIGHBOUR: 'it returns false'. Refute it at one input. -/
def exprPasGroupsWrong : ChangeSpec := { name := "exprPasGroups", fn := fun _ => fun
  | [d1, d2] => { results := [.lit (.bool false)], args := [d1, d2] }
  | _ => none }
def ExprPasGroupsWrongFalsely : Prop := exprPasGroupsRow.holds Tryz.pinned (OpenSpec.ofChange exprPasGroupsWrong)

/-- 'pantographlaw08.ExprPasWhole': WHATEVER THE INPUT: true; the input reads as it did. -/
def exprPasWholeSpec : ChangeSpec := { name := "exprPasWhole", fn := fun _ => fun
  | [d1, d2] => { results := [.lit (.bool true)], args := [d1, d2] }
  | _ => none }
def exprPasWholeRow : OpenClaim := { program := "ytpcldpnaljheoaagreatdoor", sum := "9cb313cb470614e1c0cffd2dfec6a428c2a5e7860e21f9e5262315e2f88405c5", func := "pantograph/pantographlaw08.ExprPasWhole", spec := "exprPasWhole", inPlace := ["internal/bytealg.IndexByteString", "internal/abi.NoEscape", "internal/bytealg.MakeNoZero", "internal/bytealg.IndexString"], unfollowed := true, recurses := true, named := ["unicode/utf8.first", "unicode/utf8.acceptRanges", "unicode.CaseRanges", "pantograph/expr.truths", "pantograph/exprpas.signs", "internal/strconv.uint64pow10", "math/bits.deBruijn32tab", "math/bits.deBruijn64tab", "internal/bytealg.MaxLen"], apart := false, laid := [("math/bits.deBruijn32tab", laid_math_bits_deBruijn32tab), ("math/bits.deBruijn64tab", laid_math_bits_deBruijn64tab), ("internal/strconv.uint64pow10", laid_internal_strconv_uint64pow10), ("unicode/utf8.acceptRanges", laid_unicode_utf8_acceptRanges), ("pantograph/expr.truths", laid_pantograph_expr_truths), ("pantograph/exprpas.signs", laid_pantograph_exprpas_signs), ("unicode.CaseRanges", laid_unicode_CaseRanges), ("unicode/utf8.first", laid_unicode_utf8_first)] }
def ExprPasWholeSaid : Prop := exprPasWholeRow.holds Tryz.pinned (OpenSpec.ofChange exprPasWholeSpec)

/-- ITS FALSE NEIGHBOUR: 'it returns false'. Refute it at one input. -/
def exprPasWholeWrong : ChangeSpec := { name := "exprPasWhole", fn := fun _ => fun
  | [d1, d2] => { results := [.lit (.bool false)], args := [d1, d2] }
  | _ => none }
def ExprPasWholeWrongFalsely : Prop := exprPasWholeRow.holds Tryz.pinned (OpenSpec.ofChange exprPasWholeWrong)

/- THE SECOND FORM. 'bulk': how many values and letters a reading holds, each counted each time it is reached (what is shared counts as often as it is met; a slice's spare places count too). A statement '..UptoSaid' is the law's where the arguments, and the package variables that the reading takes, are together of bulk at most 1048576: NARROWER than '..Said'. Prove '..Said' where nothing that the law and all that it calls make is longer than what came in: it says more and counts as full. Else prove '..UptoSaid'. A law counts once. -/
mutual
def uptoBulk {H : Type} : DataW H → Nat
  | .lit (.string bytes) => bytes.length + 1
  | .lit _ => 1
  | .nil => 1
  | .ptr d => uptoBulk d + 1
  | .slice elems spare => uptoBulkAll elems + uptoBulkAll spare + 1
  | .agg parts => uptoBulkAll parts + 1
  | .iface _ d => uptoBulk d + 1
  | .map entries => uptoBulkEntries entries + 1
  | .held _ => 1
def uptoBulkAll {H : Type} : List (DataW H) → Nat
  | [] => 0
  | d :: r => uptoBulk d + uptoBulkAll r
def uptoBulkEntries {H : Type} : List (Lit × DataW H) → Nat
  | [] => 0
  | x :: r => uptoBulkEntry x + uptoBulkEntries r
def uptoBulkEntry {H : Type} : Lit × DataW H → Nat
  | (.string bytes, d) => bytes.length + uptoBulk d + 1
  | (_, d) => uptoBulk d + 1
 end
def uptoSmall : (H : Type) → List (DataW H) → Bool := fun _ ds => decide (uptoBulkAll ds ≤ 1048576)
def OpenSpec.upto (s : _root_.Go.ChangeSpec) : _root_.Go.OpenSpec := { _root_.Go.OpenSpec.ofChange s with cond := some uptoSmall }

/-- 'pantographlaw08.ExprPasReads', WHERE WHAT IT READS IS OF BULK AT MOST 1048576: true; the input reads as it did. -/
def exprPasReadsUptoRow : OpenClaim := { program := "ytpcldpnaljheoaagreatdoor", sum := "9cb313cb470614e1c0cffd2dfec6a428c2a5e7860e21f9e5262315e2f88405c5", func := "pantograph/pantographlaw08.ExprPasReads", spec := "exprPasReads", inPlace := ["internal/bytealg.IndexByteString", "internal/abi.NoEscape", "internal/bytealg.MakeNoZero", "internal/bytealg.IndexString"], unfollowed := true, recurses := true, named := ["unicode/utf8.first", "unicode/utf8.acceptRanges", "unicode.CaseRanges", "pantograph/expr.truths", "pantograph/exprpas.signs", "internal/strconv.uint64pow10", "math/bits.deBruijn32tab", "math/bits.deBruijn64tab", "internal/bytealg.MaxLen"], apart := false, laid := [("math/bits.deBruijn32tab", laid_math_bits_deBruijn32tab), ("math/bits.deBruijn64tab", laid_math_bits_deBruijn64tab), ("internal/strconv.uint64pow10", laid_internal_strconv_uint64pow10), ("unicode/utf8.acceptRanges", laid_unicode_utf8_acceptRanges), ("pantograph/expr.truths", laid_pantograph_expr_truths), ("pantograph/exprpas.signs", laid_pantograph_exprpas_signs), ("unicode.CaseRanges", laid_unicode_CaseRanges), ("unicode/utf8.first", laid_unicode_utf8_first)], narrowed := true }
def ExprPasReadsUptoSaid : Prop := exprPasReadsUptoRow.holds Tryz.pinned (OpenSpec.upto exprPasReadsSpec)

/-- 'pantographlaw08.ExprPasPrints', WHERE WHAT IT READS IS OF BULK AT MOST 1048576: true; the input reads as it did. -/
def exprPasPrintsUptoRow : OpenClaim := { program := "ytpcldpnaljheoaagreatdoor", sum := "9cb313cb470614e1c0cffd2dfec6a428c2a5e7860e21f9e5262315e2f88405c5", func := "pantograph/pantographlaw08.ExprPasPrints", spec := "exprPasPrints", inPlace := ["internal/bytealg.IndexByteString", "internal/bytealg.IndexString", "internal/abi.NoEscape", "internal/bytealg.MakeNoZero"], unfollowed := true, recurses := true, named := ["pantograph/exprpas.signs", "internal/strconv.uint64pow10", "math/bits.deBruijn32tab", "math/bits.deBruijn64tab", "internal/bytealg.MaxLen", "pantograph/expr.truths", "unicode/utf8.first", "unicode/utf8.acceptRanges", "unicode.CaseRanges"], loops := true, apart := false, laid := [("math/bits.deBruijn32tab", laid_math_bits_deBruijn32tab), ("math/bits.deBruijn64tab", laid_math_bits_deBruijn64tab), ("internal/strconv.uint64pow10", laid_internal_strconv_uint64pow10), ("unicode/utf8.acceptRanges", laid_unicode_utf8_acceptRanges), ("pantograph/expr.truths", laid_pantograph_expr_truths), ("pantograph/exprpas.signs", laid_pantograph_exprpas_signs), ("unicode.CaseRanges", laid_unicode_CaseRanges), ("unicode/utf8.first", laid_unicode_utf8_first)], narrowed := true }
def ExprPasPrintsUptoSaid : Prop := exprPasPrintsUptoRow.holds Tryz.pinned (OpenSpec.upto exprPasPrintsSpec)

/-- 'pantographlaw08.ExprPasBack', WHERE WHAT IT READS IS OF BULK AT MOST 1048576: true; the input reads as it did. -/
def exprPasBackUptoRow : OpenClaim := { program := "ytpcldpnaljheoaagreatdoor", sum := "9cb313cb470614e1c0cffd2dfec6a428c2a5e7860e21f9e5262315e2f88405c5", func := "pantograph/pantographlaw08.ExprPasBack", spec := "exprPasBack", inPlace := ["internal/bytealg.IndexByteString", "internal/bytealg.IndexString", "internal/abi.NoEscape", "internal/bytealg.MakeNoZero"], unfollowed := true, recurses := true, named := ["pantograph/exprpas.signs", "internal/strconv.uint64pow10", "math/bits.deBruijn32tab", "math/bits.deBruijn64tab", "internal/bytealg.MaxLen", "pantograph/expr.truths", "unicode/utf8.first", "unicode/utf8.acceptRanges", "unicode.CaseRanges"], loops := true, apart := false, laid := [("math/bits.deBruijn32tab", laid_math_bits_deBruijn32tab), ("math/bits.deBruijn64tab", laid_math_bits_deBruijn64tab), ("internal/strconv.uint64pow10", laid_internal_strconv_uint64pow10), ("unicode/utf8.acceptRanges", laid_unicode_utf8_acceptRanges), ("pantograph/expr.truths", laid_pantograph_expr_truths), ("pantograph/exprpas.signs", laid_pantograph_exprpas_signs), ("unicode.CaseRanges", laid_unicode_CaseRanges), ("unicode/utf8.first", laid_unicode_utf8_first)], narrowed := true }
def ExprPasBackUptoSaid : Prop := exprPasBackUptoRow.holds Tryz.pinned (OpenSpec.upto exprPasBackSpec)

/-- 'pantographlaw08.ExprPasLeast', WHERE WHAT IT READS IS OF BULK AT MOST 1048576: true; the input reads as it did. -/
def exprPasLeastUptoRow : OpenClaim := { program := "ytpcldpnaljheoaagreatdoor", sum := "9cb313cb470614e1c0cffd2dfec6a428c2a5e7860e21f9e5262315e2f88405c5", func := "pantograph/pantographlaw08.ExprPasLeast", spec := "exprPasLeast", inPlace := ["internal/bytealg.IndexByteString", "internal/bytealg.IndexString", "internal/abi.NoEscape", "internal/bytealg.MakeNoZero"], unfollowed := true, recurses := true, named := ["pantograph/exprpas.signs", "internal/strconv.uint64pow10", "math/bits.deBruijn32tab", "math/bits.deBruijn64tab", "internal/bytealg.MaxLen", "pantograph/expr.truths", "unicode/utf8.first", "unicode/utf8.acceptRanges", "unicode.CaseRanges"], loops := true, apart := false, laid := [("math/bits.deBruijn32tab", laid_math_bits_deBruijn32tab), ("math/bits.deBruijn64tab", laid_math_bits_deBruijn64tab), ("internal/strconv.uint64pow10", laid_internal_strconv_uint64pow10), ("unicode/utf8.acceptRanges", laid_unicode_utf8_acceptRanges), ("pantograph/expr.truths", laid_pantograph_expr_truths), ("pantograph/exprpas.signs", laid_pantograph_exprpas_signs), ("unicode.CaseRanges", laid_unicode_CaseRanges), ("unicode/utf8.first", laid_unicode_utf8_first)], narrowed := true }
def ExprPasLeastUptoSaid : Prop := exprPasLeastUptoRow.holds Tryz.pinned (OpenSpec.upto exprPasLeastSpec)

/-- 'pantographlaw08.ExprPasGroups', WHERE WHAT IT READS IS OF BULK AT MOST 1048576: true; the input reads as it did. -/
def exprPasGroupsUptoRow : OpenClaim := { program := "ytpcldpnaljheoaagreatdoor", sum := "9cb313cb470614e1c0cffd2dfec6a428c2a5e7860e21f9e5262315e2f88405c5", func := "pantograph/pantographlaw08.ExprPasGroups", spec := "exprPasGroups", inPlace := ["internal/bytealg.IndexByteString", "internal/abi.NoEscape", "internal/bytealg.MakeNoZero", "internal/bytealg.IndexString"], unfollowed := true, recurses := true, named := ["unicode/utf8.first", "unicode/utf8.acceptRanges", "unicode.CaseRanges", "pantograph/expr.truths", "pantograph/exprpas.signs", "internal/strconv.uint64pow10", "math/bits.deBruijn32tab", "math/bits.deBruijn64tab", "internal/bytealg.MaxLen"], apart := false, laid := [("math/bits.deBruijn32tab", laid_math_bits_deBruijn32tab), ("math/bits.deBruijn64tab", laid_math_bits_deBruijn64tab), ("internal/strconv.uint64pow10", laid_internal_strconv_uint64pow10), ("unicode/utf8.acceptRanges", laid_unicode_utf8_acceptRanges), ("pantograph/expr.truths", laid_pantograph_expr_truths), ("pantograph/exprpas.signs", laid_pantograph_exprpas_signs), ("unicode.CaseRanges", laid_unicode_CaseRanges), ("unicode/utf8.first", laid_unicode_utf8_first)], narrowed := true }
def ExprPasGroupsUptoSaid : Prop := exprPasGroupsUptoRow.holds Tryz.pinned (OpenSpec.upto exprPasGroupsSpec)

/-- 'pantographlaw08.ExprPasWhole', WHERE WHAT IT READS IS OF BULK AT MOST 1048576: true; the input reads as it did. -/
def exprPasWholeUptoRow : OpenClaim := { program := "ytpcldpnaljheoaagreatdoor", sum := "9cb313cb470614e1c0cffd2dfec6a428c2a5e7860e21f9e5262315e2f88405c5", func := "pantograph/pantographlaw08.ExprPasWhole", spec := "exprPasWhole", inPlace := ["internal/bytealg.IndexByteString", "internal/abi.NoEscape", "internal/bytealg.MakeNoZero", "internal/bytealg.IndexString"], unfollowed := true, recurses := true, named := ["unicode/utf8.first", "unicode/utf8.acceptRanges", "unicode.CaseRanges", "pantograph/expr.truths", "pantograph/exprpas.signs", "internal/strconv.uint64pow10", "math/bits.deBruijn32tab", "math/bits.deBruijn64tab", "internal/bytealg.MaxLen"], apart := false, laid := [("math/bits.deBruijn32tab", laid_math_bits_deBruijn32tab), ("math/bits.deBruijn64tab", laid_math_bits_deBruijn64tab), ("internal/strconv.uint64pow10", laid_internal_strconv_uint64pow10), ("unicode/utf8.acceptRanges", laid_unicode_utf8_acceptRanges), ("pantograph/expr.truths", laid_pantograph_expr_truths), ("pantograph/exprpas.signs", laid_pantograph_exprpas_signs), ("unicode.CaseRanges", laid_unicode_CaseRanges), ("unicode/utf8.first", laid_unicode_utf8_first)], narrowed := true }
def ExprPasWholeUptoSaid : Prop := exprPasWholeUptoRow.holds Tryz.pinned (OpenSpec.upto exprPasWholeSpec)

end Rows
end Go.Proofs.YtpcldpnaljheoaaGreatDoor
