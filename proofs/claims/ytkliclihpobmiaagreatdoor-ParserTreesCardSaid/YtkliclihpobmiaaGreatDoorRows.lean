/-
  NARROWER THAN 'FOR EVERY INPUT', by the rows' own cells (each row's printed sentence says how): ParserTrees: laid · ParserForms: loops, laid · ParserGroups: loops, laid · ParserTokens: laid · ParserTools: loops, laid · ParserBrackets: laid · ParserLevels: laid.
  DERIVED. THE GIVEN ROWS OF THIS SEAT. 7 by the template 'for every input the law returns true; each argument reads behind the call as it read before'; 0 by the template 'total and deterministic' (their statements: YtkliclihpobmiaaGreatDoorTotals.lean).
  GIVEN WITH THE SEED: the statements are not yours to turn. If you find one false, say at which input.
  Laid BY PROGRAM, IN A SANDBOX (cutbox-rows.mjs): the forced cells as the released guide's own fill.sh prints them over the translation fba4660955077243… (all of the seat's roots in one cut). By AI agents, Wed Nov 11 2026. No macro, syntax, notation, axiom, sorry.
-/
import Derived.Test.YtkliclihpobmiaaGreatDoorChecked
import GoSem.PinnedTables
import GoSem.Claim
import GoSem.ClaimJoined
import GoSem.ClaimMapViews
import Derived.JoinedTies
import Derived.KernelRfl
namespace Go.Proofs.YtkliclihpobmiaaGreatDoor
/- THE CELL 'sum', in the pinned program and in every row, IS THE sha256 OF THE DUMP (.gsa) THAT YtkliclihpobmiaaGreatDoorProg.lean LOADS. Nothing in Lean hashes anything: it is a label: what it is worth is what the hold of that sum in a sandbox is worth. -/
noncomputable def Tryz.pinned : Pinned := { name := "ytkliclihpobmiaagreatdoor", sum := "fba46609550772434c604fa93f7588e634a84aaed2486f7c70c0a5a66db92634", checked := Tryz.checked }
namespace Rows
def none {H : Type} : Left H := { results := [], args := [] }

/- WHAT THE LISTED PACKAGE-LEVEL VARIABLES READ AS WHEN THE CALL BEGINS. Each datum BY PROGRAM (the guide's laid-datum.mjs) off the statement by which the dump's own 'gosem.cut.vars' lays the variable. In a bare row this is a premise. The card (YtkliclihpobmiaaGreatDoorCards.lean) ties it to the program's text. -/
def laid_math_bits_deBruijn32tab {H : Type} : DataW H := .agg [.lit (.int .u8 0), .lit (.int .u8 1), .lit (.int .u8 28), .lit (.int .u8 2), .lit (.int .u8 29), .lit (.int .u8 14), .lit (.int .u8 24), .lit (.int .u8 3), .lit (.int .u8 30), .lit (.int .u8 22), .lit (.int .u8 20), .lit (.int .u8 15), .lit (.int .u8 25), .lit (.int .u8 17), .lit (.int .u8 4), .lit (.int .u8 8), .lit (.int .u8 31), .lit (.int .u8 27), .lit (.int .u8 13), .lit (.int .u8 23), .lit (.int .u8 21), .lit (.int .u8 19), .lit (.int .u8 16), .lit (.int .u8 7), .lit (.int .u8 26), .lit (.int .u8 12), .lit (.int .u8 18), .lit (.int .u8 6), .lit (.int .u8 11), .lit (.int .u8 5), .lit (.int .u8 10), .lit (.int .u8 9)]
def laid_math_bits_deBruijn64tab {H : Type} : DataW H := .agg [.lit (.int .u8 0), .lit (.int .u8 1), .lit (.int .u8 56), .lit (.int .u8 2), .lit (.int .u8 57), .lit (.int .u8 49), .lit (.int .u8 28), .lit (.int .u8 3), .lit (.int .u8 61), .lit (.int .u8 58), .lit (.int .u8 42), .lit (.int .u8 50), .lit (.int .u8 38), .lit (.int .u8 29), .lit (.int .u8 17), .lit (.int .u8 4), .lit (.int .u8 62), .lit (.int .u8 47), .lit (.int .u8 59), .lit (.int .u8 36), .lit (.int .u8 45), .lit (.int .u8 43), .lit (.int .u8 51), .lit (.int .u8 22), .lit (.int .u8 53), .lit (.int .u8 39), .lit (.int .u8 33), .lit (.int .u8 30), .lit (.int .u8 24), .lit (.int .u8 18), .lit (.int .u8 12), .lit (.int .u8 5), .lit (.int .u8 63), .lit (.int .u8 55), .lit (.int .u8 48), .lit (.int .u8 27), .lit (.int .u8 60), .lit (.int .u8 41), .lit (.int .u8 37), .lit (.int .u8 16), .lit (.int .u8 46), .lit (.int .u8 35), .lit (.int .u8 44), .lit (.int .u8 21), .lit (.int .u8 52), .lit (.int .u8 32), .lit (.int .u8 23), .lit (.int .u8 11), .lit (.int .u8 54), .lit (.int .u8 26), .lit (.int .u8 40), .lit (.int .u8 15), .lit (.int .u8 34), .lit (.int .u8 20), .lit (.int .u8 31), .lit (.int .u8 10), .lit (.int .u8 25), .lit (.int .u8 14), .lit (.int .u8 19), .lit (.int .u8 9), .lit (.int .u8 13), .lit (.int .u8 8), .lit (.int .u8 7), .lit (.int .u8 6)]
def laid_internal_strconv_uint64pow10 {H : Type} : DataW H := .agg [.lit (.int .u64 1), .lit (.int .u64 10), .lit (.int .u64 100), .lit (.int .u64 1000), .lit (.int .u64 10000), .lit (.int .u64 100000), .lit (.int .u64 1000000), .lit (.int .u64 10000000), .lit (.int .u64 100000000), .lit (.int .u64 1000000000), .lit (.int .u64 10000000000), .lit (.int .u64 100000000000), .lit (.int .u64 1000000000000), .lit (.int .u64 10000000000000), .lit (.int .u64 100000000000000), .lit (.int .u64 1000000000000000), .lit (.int .u64 10000000000000000), .lit (.int .u64 100000000000000000), .lit (.int .u64 1000000000000000000), .lit (.int .u64 10000000000000000000)]
def laid_unicode_utf8_acceptRanges {H : Type} : DataW H := .agg [.agg [.lit (.int .u8 128), .lit (.int .u8 191)], .agg [.lit (.int .u8 160), .lit (.int .u8 191)], .agg [.lit (.int .u8 128), .lit (.int .u8 159)], .agg [.lit (.int .u8 144), .lit (.int .u8 191)], .agg [.lit (.int .u8 128), .lit (.int .u8 143)], .agg [.lit (.int .u8 0), .lit (.int .u8 0)], .agg [.lit (.int .u8 0), .lit (.int .u8 0)], .agg [.lit (.int .u8 0), .lit (.int .u8 0)], .agg [.lit (.int .u8 0), .lit (.int .u8 0)], .agg [.lit (.int .u8 0), .lit (.int .u8 0)], .agg [.lit (.int .u8 0), .lit (.int .u8 0)], .agg [.lit (.int .u8 0), .lit (.int .u8 0)], .agg [.lit (.int .u8 0), .lit (.int .u8 0)], .agg [.lit (.int .u8 0), .lit (.int .u8 0)], .agg [.lit (.int .u8 0), .lit (.int .u8 0)], .agg [.lit (.int .u8 0), .lit (.int .u8 0)]]
def laid_strconv_ErrRange {H : Type} : DataW H := .iface "*errors.errorString" (.ptr (.agg [.lit (.string [118, 97, 108, 117, 101, 32, 111, 117, 116, 32, 111, 102, 32, 114, 97, 110, 103, 101])]))
def laid_strconv_ErrSyntax {H : Type} : DataW H := .iface "*errors.errorString" (.ptr (.agg [.lit (.string [105, 110, 118, 97, 108, 105, 100, 32, 115, 121, 110, 116, 97, 120])]))
def laid_jacquard_parser_levels {H : Type} : DataW H := .agg [.slice [.agg [.lit (.string [124, 124]), .lit (.int .i64 18)]] [], .slice [.agg [.lit (.string [38, 38]), .lit (.int .i64 17)]] [], .slice [.agg [.lit (.string [61, 61]), .lit (.int .i64 11)], .agg [.lit (.string [33, 61]), .lit (.int .i64 12)], .agg [.lit (.string [60]), .lit (.int .i64 13)], .agg [.lit (.string [60, 61]), .lit (.int .i64 14)], .agg [.lit (.string [62]), .lit (.int .i64 15)], .agg [.lit (.string [62, 61]), .lit (.int .i64 16)]] [], .slice [.agg [.lit (.string [124]), .lit (.int .i64 7)]] [], .slice [.agg [.lit (.string [94]), .lit (.int .i64 8)]] [], .slice [.agg [.lit (.string [38]), .lit (.int .i64 6)]] [], .slice [.agg [.lit (.string [60, 60]), .lit (.int .i64 9)], .agg [.lit (.string [62, 62]), .lit (.int .i64 10)]] [], .slice [.agg [.lit (.string [43]), .lit (.int .i64 1)], .agg [.lit (.string [45]), .lit (.int .i64 2)]] [], .slice [.agg [.lit (.string [42]), .lit (.int .i64 3)], .agg [.lit (.string [47]), .lit (.int .i64 4)], .agg [.lit (.string [37]), .lit (.int .i64 5)]] [], .slice [] [], .slice [.agg [.lit (.string [45]), .lit (.int .i64 19)], .agg [.lit (.string [126]), .lit (.int .i64 20)], .agg [.lit (.string [33]), .lit (.int .i64 21)]] []]
/-- One of Go's own tables, pinned by name: the form's constant. -/
def laid_unicode_utf8_first : DataW Unit := Go.Pinned.utf8First
def laid_jacquard_parser_units {H : Type} : DataW H := .agg [.lit (.int .i64 2), .lit (.int .i64 3)]
def laid_jacquard_parser_scalars {H : Type} : DataW H := .agg [.lit (.int .i64 4), .lit (.int .i64 4)]
def laid_jacquard_parser_params {H : Type} : DataW H := .agg [.lit (.int .i64 4), .lit (.int .i64 7)]
def laid_jacquard_parser_blocks {H : Type} : DataW H := .agg [.lit (.int .i64 8), .lit (.int .i64 8)]
def laid_jacquard_parser_statements {H : Type} : DataW H := .agg [.lit (.int .i64 9), .lit (.int .i64 17)]
def laid_jacquard_parser_branches {H : Type} : DataW H := .agg [.lit (.int .i64 13), .lit (.int .i64 13)]
def laid_jacquard_parser_exprs {H : Type} : DataW H := .agg [.lit (.int .i64 18), .lit (.int .i64 26)]

/-- 'jacquardlaw04.ParserTrees': WHATEVER THE INPUT: true; the input reads as it did. -/
def parserTreesSpec : ChangeSpec := { name := "parserTrees", fn := fun _ => fun
  | [d] => { results := [.lit (.bool true)], args := [d] }
  | _ => none }
def parserTreesRow : OpenClaim := { program := "ytkliclihpobmiaagreatdoor", sum := "fba46609550772434c604fa93f7588e634a84aaed2486f7c70c0a5a66db92634", func := "jacquard/jacquardlaw04.ParserTrees", spec := "parserTrees", inPlace := ["internal/bytealg.IndexByteString", "internal/bytealg.CountString", "internal/bytealg.IndexString"], unfollowed := true, recurses := true, named := ["internal/bytealg.MaxLen", "unicode/utf8.first", "unicode/utf8.acceptRanges", "strconv.ErrSyntax", "strconv.ErrRange", "internal/strconv.uint64pow10", "math/bits.deBruijn32tab", "math/bits.deBruijn64tab", "jacquard/parser.levels"], apart := false, laid := [("math/bits.deBruijn32tab", laid_math_bits_deBruijn32tab), ("math/bits.deBruijn64tab", laid_math_bits_deBruijn64tab), ("internal/strconv.uint64pow10", laid_internal_strconv_uint64pow10), ("unicode/utf8.acceptRanges", laid_unicode_utf8_acceptRanges), ("strconv.ErrRange", laid_strconv_ErrRange), ("strconv.ErrSyntax", laid_strconv_ErrSyntax), ("jacquard/parser.levels", laid_jacquard_parser_levels), ("unicode/utf8.first", laid_unicode_utf8_first)] }
def ParserTreesSaid : Prop := parserTreesRow.holds Tryz.pinned (OpenSpec.ofChange parserTreesSpec)

/-- ITS FALSE NEIGHBOUR: 'it returns false'. Refute it at one input. -/
def parserTreesWrong : ChangeSpec := { name := "parserTrees", fn := fun _ => fun
  | [d] => { results := [.lit (.bool false)], args := [d] }
  | _ => none }
def ParserTreesWrongFalsely : Prop := parserTreesRow.holds Tryz.pinned (OpenSpec.ofChange parserTreesWrong)

/-- 'jacquardlaw04.ParserForms': WHATEVER THE INPUT: true; the input reads as it did. -/
def parserFormsSpec : ChangeSpec := { name := "parserForms", fn := fun _ => fun
  | [d] => { results := [.lit (.bool true)], args := [d] }
  | _ => none }
def parserFormsRow : OpenClaim := { program := "ytkliclihpobmiaagreatdoor", sum := "fba46609550772434c604fa93f7588e634a84aaed2486f7c70c0a5a66db92634", func := "jacquard/jacquardlaw04.ParserForms", spec := "parserForms", inPlace := ["internal/bytealg.IndexByteString", "internal/bytealg.CountString", "internal/bytealg.IndexString"], unfollowed := true, recurses := true, named := ["internal/bytealg.MaxLen", "unicode/utf8.first", "unicode/utf8.acceptRanges", "strconv.ErrSyntax", "strconv.ErrRange", "internal/strconv.uint64pow10", "math/bits.deBruijn32tab", "math/bits.deBruijn64tab", "jacquard/parser.levels", "jacquard/parser.exprs", "jacquard/parser.units", "jacquard/parser.scalars", "jacquard/parser.params", "jacquard/parser.statements", "jacquard/parser.blocks", "jacquard/parser.branches"], loops := true, apart := false, laid := [("math/bits.deBruijn32tab", laid_math_bits_deBruijn32tab), ("math/bits.deBruijn64tab", laid_math_bits_deBruijn64tab), ("internal/strconv.uint64pow10", laid_internal_strconv_uint64pow10), ("unicode/utf8.acceptRanges", laid_unicode_utf8_acceptRanges), ("strconv.ErrRange", laid_strconv_ErrRange), ("strconv.ErrSyntax", laid_strconv_ErrSyntax), ("jacquard/parser.levels", laid_jacquard_parser_levels), ("jacquard/parser.units", laid_jacquard_parser_units), ("jacquard/parser.scalars", laid_jacquard_parser_scalars), ("jacquard/parser.params", laid_jacquard_parser_params), ("jacquard/parser.blocks", laid_jacquard_parser_blocks), ("jacquard/parser.statements", laid_jacquard_parser_statements), ("jacquard/parser.branches", laid_jacquard_parser_branches), ("jacquard/parser.exprs", laid_jacquard_parser_exprs), ("unicode/utf8.first", laid_unicode_utf8_first)] }
def ParserFormsSaid : Prop := parserFormsRow.holds Tryz.pinned (OpenSpec.ofChange parserFormsSpec)

/-- ITS FALSE NEIGHBOUR: 'it returns false'. Refute it at one input. -/
def parserFormsWrong : ChangeSpec := { name := "parserForms", fn := fun _ => fun
  | [d] => { results := [.lit (.bool false)], args := [d] }
  | _ => none }
def ParserFormsWrongFalsely : Prop := parserFormsRow.holds Tryz.pinned (OpenSpec.ofChange parserFormsWrong)

/-- 'jacquardlaw04.ParserGroups': WHATEVER THE INPUT: true; the input reads as it did. -/
def parserGroupsSpec : ChangeSpec := { name := "parserGroups", fn := fun _ => fun
  | [d] => { results := [.lit (.bool true)], args := [d] }
  | _ => none }
def parserGroupsRow : OpenClaim := { program := "ytkliclihpobmiaagreatdoor", sum := "fba46609550772434c604fa93f7588e634a84aaed2486f7c70c0a5a66db92634", func := "jacquard/jacquardlaw04.ParserGroups", spec := "parserGroups", inPlace := ["internal/bytealg.IndexByteString", "internal/bytealg.CountString", "internal/bytealg.IndexString"], unfollowed := true, recurses := true, named := ["internal/bytealg.MaxLen", "unicode/utf8.first", "unicode/utf8.acceptRanges", "strconv.ErrSyntax", "strconv.ErrRange", "internal/strconv.uint64pow10", "math/bits.deBruijn32tab", "math/bits.deBruijn64tab", "jacquard/parser.levels"], loops := true, apart := false, laid := [("math/bits.deBruijn32tab", laid_math_bits_deBruijn32tab), ("math/bits.deBruijn64tab", laid_math_bits_deBruijn64tab), ("internal/strconv.uint64pow10", laid_internal_strconv_uint64pow10), ("unicode/utf8.acceptRanges", laid_unicode_utf8_acceptRanges), ("strconv.ErrRange", laid_strconv_ErrRange), ("strconv.ErrSyntax", laid_strconv_ErrSyntax), ("jacquard/parser.levels", laid_jacquard_parser_levels), ("unicode/utf8.first", laid_unicode_utf8_first)] }
def ParserGroupsSaid : Prop := parserGroupsRow.holds Tryz.pinned (OpenSpec.ofChange parserGroupsSpec)

/-- ITS FALSE NEIGHBOUR: 'it returns false'. Refute it at one input. -/
def parserGroupsWrong : ChangeSpec := { name := "parserGroups", fn := fun _ => fun
  | [d] => { results := [.lit (.bool false)], args := [d] }
  | _ => none }
def ParserGroupsWrongFalsely : Prop := parserGroupsRow.holds Tryz.pinned (OpenSpec.ofChange parserGroupsWrong)

/-- 'jacquardlaw04.ParserTokens': WHATEVER THE INPUT: true; the input reads as it did. -/
def parserTokensSpec : ChangeSpec := { name := "parserTokens", fn := fun _ => fun
  | [d] => { results := [.lit (.bool true)], args := [d] }
  | _ => none }
def parserTokensRow : OpenClaim := { program := "ytkliclihpobmiaagreatdoor", sum := "fba46609550772434c604fa93f7588e634a84aaed2486f7c70c0a5a66db92634", func := "jacquard/jacquardlaw04.ParserTokens", spec := "parserTokens", inPlace := ["internal/bytealg.IndexByteString", "internal/bytealg.CountString", "internal/bytealg.IndexString", "internal/abi.NoEscape"], unfollowed := true, recurses := true, named := ["internal/bytealg.MaxLen", "unicode/utf8.first", "unicode/utf8.acceptRanges", "strconv.ErrSyntax", "strconv.ErrRange", "internal/strconv.uint64pow10", "math/bits.deBruijn32tab", "math/bits.deBruijn64tab", "jacquard/parser.levels"], apart := false, laid := [("math/bits.deBruijn32tab", laid_math_bits_deBruijn32tab), ("math/bits.deBruijn64tab", laid_math_bits_deBruijn64tab), ("internal/strconv.uint64pow10", laid_internal_strconv_uint64pow10), ("unicode/utf8.acceptRanges", laid_unicode_utf8_acceptRanges), ("strconv.ErrRange", laid_strconv_ErrRange), ("strconv.ErrSyntax", laid_strconv_ErrSyntax), ("jacquard/parser.levels", laid_jacquard_parser_levels), ("unicode/utf8.first", laid_unicode_utf8_first)] }
def ParserTokensSaid : Prop := parserTokensRow.holds Tryz.pinned (OpenSpec.ofChange parserTokensSpec)

/-- ITS FALSE NEIGHBOUR: 'it returns false'. Refute it at one input. -/
def parserTokensWrong : ChangeSpec := { name := "parserTokens", fn := fun _ => fun
  | [d] => { results := [.lit (.bool false)], args := [d] }
  | _ => none }
def ParserTokensWrongFalsely : Prop := parserTokensRow.holds Tryz.pinned (OpenSpec.ofChange parserTokensWrong)

/-- 'jacquardlaw04.ParserTools': WHATEVER THE INPUT: true; the input reads as it did. -/
def parserToolsSpec : ChangeSpec := { name := "parserTools", fn := fun _ => fun
  | [d1, d2] => { results := [.lit (.bool true)], args := [d1, d2] }
  | _ => none }
def parserToolsRow : OpenClaim := { program := "ytkliclihpobmiaagreatdoor", sum := "fba46609550772434c604fa93f7588e634a84aaed2486f7c70c0a5a66db92634", func := "jacquard/jacquardlaw04.ParserTools", spec := "parserTools", inPlace := ["internal/bytealg.IndexByteString", "internal/bytealg.CountString", "internal/bytealg.IndexString"], unfollowed := true, recurses := true, named := ["internal/bytealg.MaxLen", "unicode/utf8.first", "unicode/utf8.acceptRanges", "strconv.ErrSyntax", "strconv.ErrRange", "internal/strconv.uint64pow10", "math/bits.deBruijn32tab", "math/bits.deBruijn64tab", "jacquard/parser.levels", "jacquard/parser.exprs"], loops := true, apart := false, laid := [("math/bits.deBruijn32tab", laid_math_bits_deBruijn32tab), ("math/bits.deBruijn64tab", laid_math_bits_deBruijn64tab), ("internal/strconv.uint64pow10", laid_internal_strconv_uint64pow10), ("unicode/utf8.acceptRanges", laid_unicode_utf8_acceptRanges), ("strconv.ErrRange", laid_strconv_ErrRange), ("strconv.ErrSyntax", laid_strconv_ErrSyntax), ("jacquard/parser.levels", laid_jacquard_parser_levels), ("jacquard/parser.exprs", laid_jacquard_parser_exprs), ("unicode/utf8.first", laid_unicode_utf8_first)] }
def ParserToolsSaid : Prop := parserToolsRow.holds Tryz.pinned (OpenSpec.ofChange parserToolsSpec)

/-- ITS FALSE NEIGHBOUR: 'it returns false'. Refute it at one input. -/
def parserToolsWrong : ChangeSpec := { name := "parserTools", fn := fun _ => fun
  | [d1, d2] => { results := [.lit (.bool false)], args := [d1, d2] }
  | _ => none }
def ParserToolsWrongFalsely : Prop := parserToolsRow.holds Tryz.pinned (OpenSpec.ofChange parserToolsWrong)

/-- 'jacquardlaw04.ParserBrackets': WHATEVER THE INPUT: true; the input reads as it did. -/
def parserBracketsSpec : ChangeSpec := { name := "parserBrackets", fn := fun _ => fun
  | [d1, d2] => { results := [.lit (.bool true)], args := [d1, d2] }
  | _ => none }
def parserBracketsRow : OpenClaim := { program := "ytkliclihpobmiaagreatdoor", sum := "fba46609550772434c604fa93f7588e634a84aaed2486f7c70c0a5a66db92634", func := "jacquard/jacquardlaw04.ParserBrackets", spec := "parserBrackets", inPlace := ["internal/bytealg.IndexByteString", "internal/bytealg.CountString", "internal/bytealg.IndexString"], unfollowed := true, recurses := true, named := ["internal/bytealg.MaxLen", "unicode/utf8.first", "unicode/utf8.acceptRanges", "strconv.ErrSyntax", "strconv.ErrRange", "internal/strconv.uint64pow10", "math/bits.deBruijn32tab", "math/bits.deBruijn64tab", "jacquard/parser.levels"], apart := false, laid := [("math/bits.deBruijn32tab", laid_math_bits_deBruijn32tab), ("math/bits.deBruijn64tab", laid_math_bits_deBruijn64tab), ("internal/strconv.uint64pow10", laid_internal_strconv_uint64pow10), ("unicode/utf8.acceptRanges", laid_unicode_utf8_acceptRanges), ("strconv.ErrRange", laid_strconv_ErrRange), ("strconv.ErrSyntax", laid_strconv_ErrSyntax), ("jacquard/parser.levels", laid_jacquard_parser_levels), ("unicode/utf8.first", laid_unicode_utf8_first)] }
def ParserBracketsSaid : Prop := parserBracketsRow.holds Tryz.pinned (OpenSpec.ofChange parserBracketsSpec)

/-- ITS FALSE NEIGHBOUR: 'it returns false'. Refute it at one input. -/
def parserBracketsWrong : ChangeSpec := { name := "parserBrackets", fn := fun _ => fun
  | [d1, d2] => { results := [.lit (.bool false)], args := [d1, d2] }
  | _ => none }
def ParserBracketsWrongFalsely : Prop := parserBracketsRow.holds Tryz.pinned (OpenSpec.ofChange parserBracketsWrong)

/-- 'jacquardlaw04.ParserLevels': WHATEVER THE INPUT: true; the input reads as it did. -/
def parserLevelsSpec : ChangeSpec := { name := "parserLevels", fn := fun _ => fun
  | [d1, d2] => { results := [.lit (.bool true)], args := [d1, d2] }
  | _ => none }
def parserLevelsRow : OpenClaim := { program := "ytkliclihpobmiaagreatdoor", sum := "fba46609550772434c604fa93f7588e634a84aaed2486f7c70c0a5a66db92634", func := "jacquard/jacquardlaw04.ParserLevels", spec := "parserLevels", inPlace := ["internal/bytealg.IndexByteString", "internal/bytealg.CountString", "internal/bytealg.IndexString"], unfollowed := true, recurses := true, named := ["internal/bytealg.MaxLen", "unicode/utf8.first", "unicode/utf8.acceptRanges", "strconv.ErrSyntax", "strconv.ErrRange", "internal/strconv.uint64pow10", "math/bits.deBruijn32tab", "math/bits.deBruijn64tab", "jacquard/parser.levels"], apart := false, laid := [("math/bits.deBruijn32tab", laid_math_bits_deBruijn32tab), ("math/bits.deBruijn64tab", laid_math_bits_deBruijn64tab), ("internal/strconv.uint64pow10", laid_internal_strconv_uint64pow10), ("unicode/utf8.acceptRanges", laid_unicode_utf8_acceptRanges), ("strconv.ErrRange", laid_strconv_ErrRange), ("strconv.ErrSyntax", laid_strconv_ErrSyntax), ("jacquard/parser.levels", laid_jacquard_parser_levels), ("unicode/utf8.first", laid_unicode_utf8_first)] }
def ParserLevelsSaid : Prop := parserLevelsRow.holds Tryz.pinned (OpenSpec.ofChange parserLevelsSpec)

/-- ITS FALSE NEIGHBOUR: 'it returns false'. Refute it at one input. -/
def parserLevelsWrong : ChangeSpec := { name := "parserLevels", fn := fun _ => fun
  | [d1, d2] => { results := [.lit (.bool false)], args := [d1, d2] }
  | _ => none }
def ParserLevelsWrongFalsely : Prop := parserLevelsRow.holds Tryz.pinned (OpenSpec.ofChange parserLevelsWrong)

/- THE SECOND FORM. 'bulk': how many values and letters a reading holds, each counted each time it is reached (what is shared counts as often as it is met; a slice's spare places count too). A statement '..UptoSaid' is the law's where the arguments, and the package variables that the reading takes, are together of bulk at most 1048576: NARROWER than '..Said'. Prove '..Said' where nothing that the law and all that it calls make is longer than what came in: it says more and counts as full. Else prove '..UptoSaid'. A law counts once. -/
mutual
def uptoBulk {H : Type} : DataW H → Nat
  | .lit (.string bytes) => bytes.length + 1
  | .lit _ => 1
  | .nil => 1
  | .ptr d => uptoBulk d + 1
  | .slice elems spare => uptoBulkAll elems + uptoBulkAll spare + 1
  | .agg parts => uptoBulkAll parts + 1
  | .iface _ d => uptoBulk d + 1
  | .map entries => uptoBulkEntries entries + 1
  | .held _ => 1
def uptoBulkAll {H : Type} : List (DataW H) → Nat
  | [] => 0
  | d :: r => uptoBulk d + uptoBulkAll r
def uptoBulkEntries {H : Type} : List (Lit × DataW H) → Nat
  | [] => 0
  | x :: r => uptoBulkEntry x + uptoBulkEntries r
def uptoBulkEntry {H : Type} : Lit × DataW H → Nat
  | (.string bytes, d) => bytes.length + uptoBulk d + 1
  | (_, d) => uptoBulk d + 1
 end
def uptoSmall : (H : Type) → List (DataW H) → Bool := fun _ ds => decide (uptoBulkAll ds ≤ 1048576)
def OpenSpec.upto (s : _root_.Go.ChangeSpec) : _root_.Go.OpenSpec := { _root_.Go.OpenSpec.ofChange s with cond := some uptoSmall }

/-- 'jacquardlaw04.ParserTrees', WHERE WHAT IT READS IS OF BULK AT MOST 1048576: true; the input reads as it did. -/
def parserTreesUptoRow : OpenClaim := { program := "ytkliclihpobmiaagreatdoor", sum := "fba46609550772434c604fa93f7588e634a84aaed2486f7c70c0a5a66db92634", func := "jacquard/jacquardlaw04.ParserTrees", spec := "parserTrees", inPlace := ["internal/bytealg.IndexByteString", "internal/bytealg.CountString", "internal/bytealg.IndexString"], unfollowed := true, recurses := true, named := ["internal/bytealg.MaxLen", "unicode/utf8.first", "unicode/utf8.acceptRanges", "strconv.ErrSyntax", "strconv.ErrRange", "internal/strconv.uint64pow10", "math/bits.deBruijn32tab", "math/bits.deBruijn64tab", "jacquard/parser.levels"], apart := false, laid := [("math/bits.deBruijn32tab", laid_math_bits_deBruijn32tab), ("math/bits.deBruijn64tab", laid_math_bits_deBruijn64tab), ("internal/strconv.uint64pow10", laid_internal_strconv_uint64pow10), ("unicode/utf8.acceptRanges", laid_unicode_utf8_acceptRanges), ("strconv.ErrRange", laid_strconv_ErrRange), ("strconv.ErrSyntax", laid_strconv_ErrSyntax), ("jacquard/parser.levels", laid_jacquard_parser_levels), ("unicode/utf8.first", laid_unicode_utf8_first)], narrowed := true }
def ParserTreesUptoSaid : Prop := parserTreesUptoRow.holds Tryz.pinned (OpenSpec.upto parserTreesSpec)

/-- 'jacquardlaw04.ParserForms', WHERE WHAT IT READS IS OF BULK AT MOST 1048576: true; the input reads as it did. -/
def parserFormsUptoRow : OpenClaim := { program := "ytkliclihpobmiaagreatdoor", sum := "fba46609550772434c604fa93f7588e634a84aaed2486f7c70c0a5a66db92634", func := "jacquard/jacquardlaw04.ParserForms", spec := "parserForms", inPlace := ["internal/bytealg.IndexByteString", "internal/bytealg.CountString", "internal/bytealg.IndexString"], unfollowed := true, recurses := true, named := ["internal/bytealg.MaxLen", "unicode/utf8.first", "unicode/utf8.acceptRanges", "strconv.ErrSyntax", "strconv.ErrRange", "internal/strconv.uint64pow10", "math/bits.deBruijn32tab", "math/bits.deBruijn64tab", "jacquard/parser.levels", "jacquard/parser.exprs", "jacquard/parser.units", "jacquard/parser.scalars", "jacquard/parser.params", "jacquard/parser.statements", "jacquard/parser.blocks", "jacquard/parser.branches"], loops := true, apart := false, laid := [("math/bits.deBruijn32tab", laid_math_bits_deBruijn32tab), ("math/bits.deBruijn64tab", laid_math_bits_deBruijn64tab), ("internal/strconv.uint64pow10", laid_internal_strconv_uint64pow10), ("unicode/utf8.acceptRanges", laid_unicode_utf8_acceptRanges), ("strconv.ErrRange", laid_strconv_ErrRange), ("strconv.ErrSyntax", laid_strconv_ErrSyntax), ("jacquard/parser.levels", laid_jacquard_parser_levels), ("jacquard/parser.units", laid_jacquard_parser_units), ("jacquard/parser.scalars", laid_jacquard_parser_scalars), ("jacquard/parser.params", laid_jacquard_parser_params), ("jacquard/parser.blocks", laid_jacquard_parser_blocks), ("jacquard/parser.statements", laid_jacquard_parser_statements), ("jacquard/parser.branches", laid_jacquard_parser_branches), ("jacquard/parser.exprs", laid_jacquard_parser_exprs), ("unicode/utf8.first", laid_unicode_utf8_first)], narrowed := true }
def ParserFormsUptoSaid : Prop := parserFormsUptoRow.holds Tryz.pinned (OpenSpec.upto parserFormsSpec)

/-- 'jacquardlaw04.ParserGroups', WHERE WHAT IT READS IS OF BULK AT MOST 1048576: true; the input reads as it did. -/
def parserGroupsUptoRow : OpenClaim := { program := "ytkliclihpobmiaagreatdoor", sum := "fba46609550772434c604fa93f7588e634a84aaed2486f7c70c0a5a66db92634", func := "jacquard/jacquardlaw04.ParserGroups", spec := "parserGroups", inPlace := ["internal/bytealg.IndexByteString", "internal/bytealg.CountString", "internal/bytealg.IndexString"], unfollowed := true, recurses := true, named := ["internal/bytealg.MaxLen", "unicode/utf8.first", "unicode/utf8.acceptRanges", "strconv.ErrSyntax", "strconv.ErrRange", "internal/strconv.uint64pow10", "math/bits.deBruijn32tab", "math/bits.deBruijn64tab", "jacquard/parser.levels"], loops := true, apart := false, laid := [("math/bits.deBruijn32tab", laid_math_bits_deBruijn32tab), ("math/bits.deBruijn64tab", laid_math_bits_deBruijn64tab), ("internal/strconv.uint64pow10", laid_internal_strconv_uint64pow10), ("unicode/utf8.acceptRanges", laid_unicode_utf8_acceptRanges), ("strconv.ErrRange", laid_strconv_ErrRange), ("strconv.ErrSyntax", laid_strconv_ErrSyntax), ("jacquard/parser.levels", laid_jacquard_parser_levels), ("unicode/utf8.first", laid_unicode_utf8_first)], narrowed := true }
def ParserGroupsUptoSaid : Prop := parserGroupsUptoRow.holds Tryz.pinned (OpenSpec.upto parserGroupsSpec)

/-- 'jacquardlaw04.ParserTokens', WHERE WHAT IT READS IS OF BULK AT MOST 1048576: true; the input reads as it did. -/
def parserTokensUptoRow : OpenClaim := { program := "ytkliclihpobmiaagreatdoor", sum := "fba46609550772434c604fa93f7588e634a84aaed2486f7c70c0a5a66db92634", func := "jacquard/jacquardlaw04.ParserTokens", spec := "parserTokens", inPlace := ["internal/bytealg.IndexByteString", "internal/bytealg.CountString", "internal/bytealg.IndexString", "internal/abi.NoEscape"], unfollowed := true, recurses := true, named := ["internal/bytealg.MaxLen", "unicode/utf8.first", "unicode/utf8.acceptRanges", "strconv.ErrSyntax", "strconv.ErrRange", "internal/strconv.uint64pow10", "math/bits.deBruijn32tab", "math/bits.deBruijn64tab", "jacquard/parser.levels"], apart := false, laid := [("math/bits.deBruijn32tab", laid_math_bits_deBruijn32tab), ("math/bits.deBruijn64tab", laid_math_bits_deBruijn64tab), ("internal/strconv.uint64pow10", laid_internal_strconv_uint64pow10), ("unicode/utf8.acceptRanges", laid_unicode_utf8_acceptRanges), ("strconv.ErrRange", laid_strconv_ErrRange), ("strconv.ErrSyntax", laid_strconv_ErrSyntax), ("jacquard/parser.levels", laid_jacquard_parser_levels), ("unicode/utf8.first", laid_unicode_utf8_first)], narrowed := true }
def ParserTokensUptoSaid : Prop := parserTokensUptoRow.holds Tryz.pinned (OpenSpec.upto parserTokensSpec)

/-- 'jacquardlaw04.ParserTools', WHERE WHAT IT READS IS OF BULK AT MOST 1048576: true; the input reads as it did. -/
def parserToolsUptoRow : OpenClaim := { program := "ytkliclihpobmiaagreatdoor", sum := "fba46609550772434c604fa93f7588e634a84aaed2486f7c70c0a5a66db92634", func := "jacquard/jacquardlaw04.ParserTools", spec := "parserTools", inPlace := ["internal/bytealg.IndexByteString", "internal/bytealg.CountString", "internal/bytealg.IndexString"], unfollowed := true, recurses := true, named := ["internal/bytealg.MaxLen", "unicode/utf8.first", "unicode/utf8.acceptRanges", "strconv.ErrSyntax", "strconv.ErrRange", "internal/strconv.uint64pow10", "math/bits.deBruijn32tab", "math/bits.deBruijn64tab", "jacquard/parser.levels", "jacquard/parser.exprs"], loops := true, apart := false, laid := [("math/bits.deBruijn32tab", laid_math_bits_deBruijn32tab), ("math/bits.deBruijn64tab", laid_math_bits_deBruijn64tab), ("internal/strconv.uint64pow10", laid_internal_strconv_uint64pow10), ("unicode/utf8.acceptRanges", laid_unicode_utf8_acceptRanges), ("strconv.ErrRange", laid_strconv_ErrRange), ("strconv.ErrSyntax", laid_strconv_ErrSyntax), ("jacquard/parser.levels", laid_jacquard_parser_levels), ("jacquard/parser.exprs", laid_jacquard_parser_exprs), ("unicode/utf8.first", laid_unicode_utf8_first)], narrowed := true }
def ParserToolsUptoSaid : Prop := parserToolsUptoRow.holds Tryz.pinned (OpenSpec.upto parserToolsSpec)

/-- 'jacquardlaw04.ParserBrackets', WHERE WHAT IT READS IS OF BULK AT MOST 1048576: true; the input reads as it did. -/
def parserBracketsUptoRow : OpenClaim := { program := "ytkliclihpobmiaagreatdoor", sum := "fba46609550772434c604fa93f7588e634a84aaed2486f7c70c0a5a66db92634", func := "jacquard/jacquardlaw04.ParserBrackets", spec := "parserBrackets", inPlace := ["internal/bytealg.IndexByteString", "internal/bytealg.CountString", "internal/bytealg.IndexString"], unfollowed := true, recurses := true, named := ["internal/bytealg.MaxLen", "unicode/utf8.first", "unicode/utf8.acceptRanges", "strconv.ErrSyntax", "strconv.ErrRange", "internal/strconv.uint64pow10", "math/bits.deBruijn32tab", "math/bits.deBruijn64tab", "jacquard/parser.levels"], apart := false, laid := [("math/bits.deBruijn32tab", laid_math_bits_deBruijn32tab), ("math/bits.deBruijn64tab", laid_math_bits_deBruijn64tab), ("internal/strconv.uint64pow10", laid_internal_strconv_uint64pow10), ("unicode/utf8.acceptRanges", laid_unicode_utf8_acceptRanges), ("strconv.ErrRange", laid_strconv_ErrRange), ("strconv.ErrSyntax", laid_strconv_ErrSyntax), ("jacquard/parser.levels", laid_jacquard_parser_levels), ("unicode/utf8.first", laid_unicode_utf8_first)], narrowed := true }
def ParserBracketsUptoSaid : Prop := parserBracketsUptoRow.holds Tryz.pinned (OpenSpec.upto parserBracketsSpec)

/-- 'jacquardlaw04.ParserLevels', WHERE WHAT IT READS IS OF BULK AT MOST 1048576: true; the input reads as it did. -/
def parserLevelsUptoRow : OpenClaim := { program := "ytkliclihpobmiaagreatdoor", sum := "fba46609550772434c604fa93f7588e634a84aaed2486f7c70c0a5a66db92634", func := "jacquard/jacquardlaw04.ParserLevels", spec := "parserLevels", inPlace := ["internal/bytealg.IndexByteString", "internal/bytealg.CountString", "internal/bytealg.IndexString"], unfollowed := true, recurses := true, named := ["internal/bytealg.MaxLen", "unicode/utf8.first", "unicode/utf8.acceptRanges", "strconv.ErrSyntax", "strconv.ErrRange", "internal/strconv.uint64pow10", "math/bits.deBruijn32tab", "math/bits.deBruijn64tab", "jacquard/parser.levels"], apart := false, laid := [("math/bits.deBruijn32tab", laid_math_bits_deBruijn32tab), ("math/bits.deBruijn64tab", laid_math_bits_deBruijn64tab), ("internal/strconv.uint64pow10", laid_internal_strconv_uint64pow10), ("unicode/utf8.acceptRanges", laid_unicode_utf8_acceptRanges), ("strconv.ErrRange", laid_strconv_ErrRange), ("strconv.ErrSyntax", laid_strconv_ErrSyntax), ("jacquard/parser.levels", laid_jacquard_parser_levels), ("unicode/utf8.first", laid_unicode_utf8_first)], narrowed := true }
def ParserLevelsUptoSaid : Prop := parserLevelsUptoRow.holds Tryz.pinned (OpenSpec.upto parserLevelsSpec)

end Rows
end Go.Proofs.YtkliclihpobmiaaGreatDoor
