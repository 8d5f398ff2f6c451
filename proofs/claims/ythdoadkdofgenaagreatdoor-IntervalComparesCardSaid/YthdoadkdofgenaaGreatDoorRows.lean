/-
  NARROWER THAN 'FOR EVERY INPUT', by the rows' own cells (each row's printed sentence says how): IntervalChecks: laid · IntervalMakes: laid · IntervalAdds: laid · IntervalScales: laid · IntervalCompares: laid · IntervalReduces: laid · IntervalCents: laid · IntervalGroup: laid · IntervalParts: laid.
  DERIVED. THE GIVEN ROWS OF THIS SEAT. 9 by the template 'for every input the law returns true; each argument reads behind the call as it read before'; 0 by the template 'total and deterministic' (their statements: YthdoadkdofgenaaGreatDoorTotals.lean).
  GIVEN WITH THE SEED: the statements are not yours to turn. If you find one false, say at which input.
  Laid BY PROGRAM, IN A SANDBOX (cutbox-rows.mjs): the forced cells as the released guide's own fill.sh prints them over the translation f1a151d0f1e57350… (all of the seat's roots in one cut). By AI agents, Wed Nov 11 2026. No macro, syntax, notation, axiom, sorry.
-/
import Derived.Test.YthdoadkdofgenaaGreatDoorChecked
import GoSem.Claim
import GoSem.ClaimJoined
import GoSem.ClaimMapViews
import Derived.JoinedTies
import Derived.KernelRfl
namespace Go.Proofs.YthdoadkdofgenaaGreatDoor
/- THE CELL 'sum', in the pinned program and in every row, IS THE sha256 OF THE DUMP (.gsa) THAT YthdoadkdofgenaaGreatDoorProg.lean LOADS. Nothing in Lean hashes anything: it is a label: what it is worth is what the hold of that sum in a sandbox is worth. -/
noncomputable def Tryz.pinned : Pinned := { name := "ythdoadkdofgenaagreatdoor", sum := "f1a151d0f1e57350b9b6592964b6a01ab172572d353efbcbcfc2dc4d6ff1f131", checked := Tryz.checked }
namespace Rows
def none {H : Type} : Left H := { results := [], args := [] }

/- WHAT THE LISTED PACKAGE-LEVEL VARIABLES READ AS WHEN THE CALL BEGINS. Each datum BY PROGRAM (the guide's laid-datum.mjs) off the statement by which the dump's own 'gosem.cut.vars' lays the variable. In a bare row this is a premise. The card (YthdoadkdofgenaaGreatDoorCards.lean) ties it to the program's text. -/
def laid_math_bits_deBruijn32tab {H : Type} : DataW H := .agg [.lit (.int .u8 0), .lit (.int .u8 1), .lit (.int .u8 28), .lit (.int .u8 2), .lit (.int .u8 29), .lit (.int .u8 14), .lit (.int .u8 24), .lit (.int .u8 3), .lit (.int .u8 30), .lit (.int .u8 22), .lit (.int .u8 20), .lit (.int .u8 15), .lit (.int .u8 25), .lit (.int .u8 17), .lit (.int .u8 4), .lit (.int .u8 8), .lit (.int .u8 31), .lit (.int .u8 27), .lit (.int .u8 13), .lit (.int .u8 23), .lit (.int .u8 21), .lit (.int .u8 19), .lit (.int .u8 16), .lit (.int .u8 7), .lit (.int .u8 26), .lit (.int .u8 12), .lit (.int .u8 18), .lit (.int .u8 6), .lit (.int .u8 11), .lit (.int .u8 5), .lit (.int .u8 10), .lit (.int .u8 9)]
def laid_math_bits_deBruijn64tab {H : Type} : DataW H := .agg [.lit (.int .u8 0), .lit (.int .u8 1), .lit (.int .u8 56), .lit (.int .u8 2), .lit (.int .u8 57), .lit (.int .u8 49), .lit (.int .u8 28), .lit (.int .u8 3), .lit (.int .u8 61), .lit (.int .u8 58), .lit (.int .u8 42), .lit (.int .u8 50), .lit (.int .u8 38), .lit (.int .u8 29), .lit (.int .u8 17), .lit (.int .u8 4), .lit (.int .u8 62), .lit (.int .u8 47), .lit (.int .u8 59), .lit (.int .u8 36), .lit (.int .u8 45), .lit (.int .u8 43), .lit (.int .u8 51), .lit (.int .u8 22), .lit (.int .u8 53), .lit (.int .u8 39), .lit (.int .u8 33), .lit (.int .u8 30), .lit (.int .u8 24), .lit (.int .u8 18), .lit (.int .u8 12), .lit (.int .u8 5), .lit (.int .u8 63), .lit (.int .u8 55), .lit (.int .u8 48), .lit (.int .u8 27), .lit (.int .u8 60), .lit (.int .u8 41), .lit (.int .u8 37), .lit (.int .u8 16), .lit (.int .u8 46), .lit (.int .u8 35), .lit (.int .u8 44), .lit (.int .u8 21), .lit (.int .u8 52), .lit (.int .u8 32), .lit (.int .u8 23), .lit (.int .u8 11), .lit (.int .u8 54), .lit (.int .u8 26), .lit (.int .u8 40), .lit (.int .u8 15), .lit (.int .u8 34), .lit (.int .u8 20), .lit (.int .u8 31), .lit (.int .u8 10), .lit (.int .u8 25), .lit (.int .u8 14), .lit (.int .u8 19), .lit (.int .u8 9), .lit (.int .u8 13), .lit (.int .u8 8), .lit (.int .u8 7), .lit (.int .u8 6)]
def laid_internal_strconv_uint64pow10 {H : Type} : DataW H := .agg [.lit (.int .u64 1), .lit (.int .u64 10), .lit (.int .u64 100), .lit (.int .u64 1000), .lit (.int .u64 10000), .lit (.int .u64 100000), .lit (.int .u64 1000000), .lit (.int .u64 10000000), .lit (.int .u64 100000000), .lit (.int .u64 1000000000), .lit (.int .u64 10000000000), .lit (.int .u64 100000000000), .lit (.int .u64 1000000000000), .lit (.int .u64 10000000000000), .lit (.int .u64 100000000000000), .lit (.int .u64 1000000000000000), .lit (.int .u64 10000000000000000), .lit (.int .u64 100000000000000000), .lit (.int .u64 1000000000000000000), .lit (.int .u64 10000000000000000000)]
def laid_strconv_ErrRange {H : Type} : DataW H := .iface "*errors.errorString" (.ptr (.agg [.lit (.string [118, 97, 108, 117, 101, 32, 111, 117, 116, 32, 111, 102, 32, 114, 97, 110, 103, 101])]))
def laid_strconv_ErrSyntax {H : Type} : DataW H := .iface "*errors.errorString" (.ptr (.agg [.lit (.string [105, 110, 118, 97, 108, 105, 100, 32, 115, 121, 110, 116, 97, 120])]))
def laid_bombarde_interval_names {H : Type} : DataW H := .agg [.agg [.lit (.string [117, 110, 105, 115, 111, 110]), .agg [.lit (.int .i64 0), .lit (.int .i64 0), .lit (.int .i64 0)]], .agg [.lit (.string [111, 99, 116, 97, 118, 101]), .agg [.lit (.int .i64 1), .lit (.int .i64 0), .lit (.int .i64 0)]], .agg [.lit (.string [102, 105, 102, 116, 104]), .agg [.lit (.int .i64 (-1)), .lit (.int .i64 1), .lit (.int .i64 0)]], .agg [.lit (.string [102, 111, 117, 114, 116, 104]), .agg [.lit (.int .i64 2), .lit (.int .i64 (-1)), .lit (.int .i64 0)]], .agg [.lit (.string [116, 104, 105, 114, 100]), .agg [.lit (.int .i64 (-2)), .lit (.int .i64 0), .lit (.int .i64 1)]], .agg [.lit (.string [109, 105, 110, 111, 114]), .agg [.lit (.int .i64 1), .lit (.int .i64 1), .lit (.int .i64 (-1))]], .agg [.lit (.string [116, 111, 110, 101]), .agg [.lit (.int .i64 (-3)), .lit (.int .i64 2), .lit (.int .i64 0)]], .agg [.lit (.string [115, 121, 110, 116, 111, 110, 105, 99]), .agg [.lit (.int .i64 (-4)), .lit (.int .i64 4), .lit (.int .i64 (-1))]], .agg [.lit (.string [112, 121, 116, 104, 97, 103, 111, 114, 101, 97, 110]), .agg [.lit (.int .i64 (-19)), .lit (.int .i64 12), .lit (.int .i64 0)]], .agg [.lit (.string [115, 99, 104, 105, 115, 109, 97]), .agg [.lit (.int .i64 (-15)), .lit (.int .i64 8), .lit (.int .i64 1)]], .agg [.lit (.string [100, 105, 101, 115, 105, 115]), .agg [.lit (.int .i64 7), .lit (.int .i64 0), .lit (.int .i64 (-3))]]]

/-- 'bombardelaw05.IntervalChecks': WHATEVER THE INPUT: true; the input reads as it did. -/
def intervalChecksSpec : ChangeSpec := { name := "intervalChecks", fn := fun _ => fun
  | [d] => { results := [.lit (.bool true)], args := [d] }
  | _ => none }
def intervalChecksRow : OpenClaim := { program := "ythdoadkdofgenaagreatdoor", sum := "f1a151d0f1e57350b9b6592964b6a01ab172572d353efbcbcfc2dc4d6ff1f131", func := "bombarde/bombardelaw05.IntervalChecks", spec := "intervalChecks", inPlace := ["internal/abi.NoEscape", "internal/bytealg.MakeNoZero"], unfollowed := true, recurses := true, named := ["bombarde/interval.names", "internal/strconv.uint64pow10", "math/bits.deBruijn32tab", "math/bits.deBruijn64tab", "strconv.ErrSyntax", "strconv.ErrRange"], apart := false, laid := [("math/bits.deBruijn32tab", laid_math_bits_deBruijn32tab), ("math/bits.deBruijn64tab", laid_math_bits_deBruijn64tab), ("internal/strconv.uint64pow10", laid_internal_strconv_uint64pow10), ("strconv.ErrRange", laid_strconv_ErrRange), ("strconv.ErrSyntax", laid_strconv_ErrSyntax), ("bombarde/interval.names", laid_bombarde_interval_names)] }
def IntervalChecksSaid : Prop := intervalChecksRow.holds Tryz.pinned (OpenSpec.ofChange intervalChecksSpec)

/-- ITS FALSE NEIGHBOUR: 'it returns false'. Refute it at one input. -/
def intervalChecksWrong : ChangeSpec := { name := "intervalChecks", fn := fun _ => fun
  | [d] => { results := [.lit (.bool false)], args := [d] }
  | _ => none }
def IntervalChecksWrongFalsely : Prop := intervalChecksRow.holds Tryz.pinned (OpenSpec.ofChange intervalChecksWrong)

/-- 'bombardelaw05.IntervalMakes': WHATEVER THE INPUT: true; the input reads as it did. -/
def intervalMakesSpec : ChangeSpec := { name := "intervalMakes", fn := fun _ => fun
  | [d1, d2, d3] => { results := [.lit (.bool true)], args := [d1, d2, d3] }
  | _ => none }
def intervalMakesRow : OpenClaim := { program := "ythdoadkdofgenaagreatdoor", sum := "f1a151d0f1e57350b9b6592964b6a01ab172572d353efbcbcfc2dc4d6ff1f131", func := "bombarde/bombardelaw05.IntervalMakes", spec := "intervalMakes", inPlace := ["internal/abi.NoEscape", "internal/bytealg.MakeNoZero"], unfollowed := true, recurses := true, named := ["bombarde/interval.names", "internal/strconv.uint64pow10", "math/bits.deBruijn32tab", "math/bits.deBruijn64tab", "strconv.ErrSyntax", "strconv.ErrRange"], apart := false, laid := [("math/bits.deBruijn32tab", laid_math_bits_deBruijn32tab), ("math/bits.deBruijn64tab", laid_math_bits_deBruijn64tab), ("internal/strconv.uint64pow10", laid_internal_strconv_uint64pow10), ("strconv.ErrRange", laid_strconv_ErrRange), ("strconv.ErrSyntax", laid_strconv_ErrSyntax), ("bombarde/interval.names", laid_bombarde_interval_names)] }
def IntervalMakesSaid : Prop := intervalMakesRow.holds Tryz.pinned (OpenSpec.ofChange intervalMakesSpec)

/-- ITS FALSE NEIGHBOUR: 'it returns false'. Refute it at one input. -/
def intervalMakesWrong : ChangeSpec := { name := "intervalMakes", fn := fun _ => fun
  | [d1, d2, d3] => { results := [.lit (.bool false)], args := [d1, d2, d3] }
  | _ => none }
def IntervalMakesWrongFalsely : Prop := intervalMakesRow.holds Tryz.pinned (OpenSpec.ofChange intervalMakesWrong)

/-- 'bombardelaw05.IntervalAdds': WHATEVER THE INPUT: true; the input reads as it did. -/
def intervalAddsSpec : ChangeSpec := { name := "intervalAdds", fn := fun _ => fun
  | [d1, d2] => { results := [.lit (.bool true)], args := [d1, d2] }
  | _ => none }
def intervalAddsRow : OpenClaim := { program := "ythdoadkdofgenaagreatdoor", sum := "f1a151d0f1e57350b9b6592964b6a01ab172572d353efbcbcfc2dc4d6ff1f131", func := "bombarde/bombardelaw05.IntervalAdds", spec := "intervalAdds", inPlace := ["internal/abi.NoEscape", "internal/bytealg.MakeNoZero"], unfollowed := true, recurses := true, named := ["bombarde/interval.names", "internal/strconv.uint64pow10", "math/bits.deBruijn32tab", "math/bits.deBruijn64tab", "strconv.ErrSyntax", "strconv.ErrRange"], apart := false, laid := [("math/bits.deBruijn32tab", laid_math_bits_deBruijn32tab), ("math/bits.deBruijn64tab", laid_math_bits_deBruijn64tab), ("internal/strconv.uint64pow10", laid_internal_strconv_uint64pow10), ("strconv.ErrRange", laid_strconv_ErrRange), ("strconv.ErrSyntax", laid_strconv_ErrSyntax), ("bombarde/interval.names", laid_bombarde_interval_names)] }
def IntervalAddsSaid : Prop := intervalAddsRow.holds Tryz.pinned (OpenSpec.ofChange intervalAddsSpec)

/-- ITS FALSE NEIGHBOUR: 'it returns false'. Refute it at one input. -/
def intervalAddsWrong : ChangeSpec := { name := "intervalAdds", fn := fun _ => fun
  | [d1, d2] => { results := [.lit (.bool false)], args := [d1, d2] }
  | _ => none }
def IntervalAddsWrongFalsely : Prop := intervalAddsRow.holds Tryz.pinned (OpenSpec.ofChange intervalAddsWrong)

/-- 'bombardelaw05.IntervalScales': WHATEVER THE INPUT: true; the input reads as it did. -/
def intervalScalesSpec : ChangeSpec := { name := "intervalScales", fn := fun _ => fun
  | [d1, d2] => { results := [.lit (.bool true)], args := [d1, d2] }
  | _ => none }
def intervalScalesRow : OpenClaim := { program := "ythdoadkdofgenaagreatdoor", sum := "f1a151d0f1e57350b9b6592964b6a01ab172572d353efbcbcfc2dc4d6ff1f131", func := "bombarde/bombardelaw05.IntervalScales", spec := "intervalScales", inPlace := ["internal/abi.NoEscape", "internal/bytealg.MakeNoZero"], unfollowed := true, recurses := true, named := ["bombarde/interval.names", "internal/strconv.uint64pow10", "math/bits.deBruijn32tab", "math/bits.deBruijn64tab", "strconv.ErrSyntax", "strconv.ErrRange"], apart := false, laid := [("math/bits.deBruijn32tab", laid_math_bits_deBruijn32tab), ("math/bits.deBruijn64tab", laid_math_bits_deBruijn64tab), ("internal/strconv.uint64pow10", laid_internal_strconv_uint64pow10), ("strconv.ErrRange", laid_strconv_ErrRange), ("strconv.ErrSyntax", laid_strconv_ErrSyntax), ("bombarde/interval.names", laid_bombarde_interval_names)] }
def IntervalScalesSaid : Prop := intervalScalesRow.holds Tryz.pinned (OpenSpec.ofChange intervalScalesSpec)

/-- ITS FALSE NEIGHBOUR: 'it returns false'. Refute it at one input. -/
def intervalScalesWrong : ChangeSpec := { name := "intervalScales", fn := fun _ => fun
  | [d1, d2] => { results := [.lit (.bool false)], args := [d1, d2] }
  | _ => none }
def IntervalScalesWrongFalsely : Prop := intervalScalesRow.holds Tryz.pinned (OpenSpec.ofChange intervalScalesWrong)

/-- 'bombardelaw05.IntervalCompares': WHATEVER THE INPUT: true; the input reads as it did. -/
def intervalComparesSpec : ChangeSpec := { name := "intervalCompares", fn := fun _ => fun
  | [d1, d2] => { results := [.lit (.bool true)], args := [d1, d2] }
  | _ => none }
def intervalComparesRow : OpenClaim := { program := "ythdoadkdofgenaagreatdoor", sum := "f1a151d0f1e57350b9b6592964b6a01ab172572d353efbcbcfc2dc4d6ff1f131", func := "bombarde/bombardelaw05.IntervalCompares", spec := "intervalCompares", inPlace := ["internal/abi.NoEscape", "internal/bytealg.MakeNoZero"], unfollowed := true, recurses := true, named := ["bombarde/interval.names", "internal/strconv.uint64pow10", "math/bits.deBruijn32tab", "math/bits.deBruijn64tab", "strconv.ErrSyntax", "strconv.ErrRange"], apart := false, laid := [("math/bits.deBruijn32tab", laid_math_bits_deBruijn32tab), ("math/bits.deBruijn64tab", laid_math_bits_deBruijn64tab), ("internal/strconv.uint64pow10", laid_internal_strconv_uint64pow10), ("strconv.ErrRange", laid_strconv_ErrRange), ("strconv.ErrSyntax", laid_strconv_ErrSyntax), ("bombarde/interval.names", laid_bombarde_interval_names)] }
def IntervalComparesSaid : Prop := intervalComparesRow.holds Tryz.pinned (OpenSpec.ofChange intervalComparesSpec)

/-- ITS FALSE NEIGHBOUR: 'it returns false'. Refute it at one input. -/
def intervalComparesWrong : ChangeSpec := { name := "intervalCompares", fn := fun _ => fun
  | [d1, d2] => { results := [.lit (.bool false)], args := [d1, d2] }
  | _ => none }
def IntervalComparesWrongFalsely : Prop := intervalComparesRow.holds Tryz.pinned (OpenSpec.ofChange intervalComparesWrong)

/-- 'bombardelaw05.IntervalReduces': WHATEVER THE INPUT: true; the input reads as it did. -/
def intervalReducesSpec : ChangeSpec := { name := "intervalReduces", fn := fun _ => fun
  | [d] => { results := [.lit (.bool true)], args := [d] }
  | _ => none }
def intervalReducesRow : OpenClaim := { program := "ythdoadkdofgenaagreatdoor", sum := "f1a151d0f1e57350b9b6592964b6a01ab172572d353efbcbcfc2dc4d6ff1f131", func := "bombarde/bombardelaw05.IntervalReduces", spec := "intervalReduces", inPlace := ["internal/abi.NoEscape", "internal/bytealg.MakeNoZero"], unfollowed := true, recurses := true, named := ["bombarde/interval.names", "internal/strconv.uint64pow10", "math/bits.deBruijn32tab", "math/bits.deBruijn64tab", "strconv.ErrSyntax", "strconv.ErrRange"], apart := false, laid := [("math/bits.deBruijn32tab", laid_math_bits_deBruijn32tab), ("math/bits.deBruijn64tab", laid_math_bits_deBruijn64tab), ("internal/strconv.uint64pow10", laid_internal_strconv_uint64pow10), ("strconv.ErrRange", laid_strconv_ErrRange), ("strconv.ErrSyntax", laid_strconv_ErrSyntax), ("bombarde/interval.names", laid_bombarde_interval_names)] }
def IntervalReducesSaid : Prop := intervalReducesRow.holds Tryz.pinned (OpenSpec.ofChange intervalReducesSpec)

/-- ITS FALSE NEIGHBOUR: 'it returns false'. Refute it at one input. -/
def intervalReducesWrong : ChangeSpec := { name := "intervalReduces", fn := fun _ => fun
  | [d] => { results := [.lit (.bool false)], args := [d] }
  | _ => none }
def IntervalReducesWrongFalsely : Prop := intervalReducesRow.holds Tryz.pinned (OpenSpec.ofChange intervalReducesWrong)

/-- 'bombardelaw05.IntervalCents': WHATEVER THE INPUT: true; the input reads as it did. -/
def intervalCentsSpec : ChangeSpec := { name := "intervalCents", fn := fun _ => fun
  | [d] => { results := [.lit (.bool true)], args := [d] }
  | _ => none }
def intervalCentsRow : OpenClaim := { program := "ythdoadkdofgenaagreatdoor", sum := "f1a151d0f1e57350b9b6592964b6a01ab172572d353efbcbcfc2dc4d6ff1f131", func := "bombarde/bombardelaw05.IntervalCents", spec := "intervalCents", inPlace := ["internal/abi.NoEscape", "internal/bytealg.MakeNoZero"], unfollowed := true, recurses := true, named := ["bombarde/interval.names", "internal/strconv.uint64pow10", "math/bits.deBruijn32tab", "math/bits.deBruijn64tab", "strconv.ErrSyntax", "strconv.ErrRange"], apart := false, laid := [("math/bits.deBruijn32tab", laid_math_bits_deBruijn32tab), ("math/bits.deBruijn64tab", laid_math_bits_deBruijn64tab), ("internal/strconv.uint64pow10", laid_internal_strconv_uint64pow10), ("strconv.ErrRange", laid_strconv_ErrRange), ("strconv.ErrSyntax", laid_strconv_ErrSyntax), ("bombarde/interval.names", laid_bombarde_interval_names)] }
def IntervalCentsSaid : Prop := intervalCentsRow.holds Tryz.pinned (OpenSpec.ofChange intervalCentsSpec)

/-- ITS FALSE NEIGHBOUR: 'it returns false'. Refute it at one input. -/
def intervalCentsWrong : ChangeSpec := { name := "intervalCents", fn := fun _ => fun
  | [d] => { results := [.lit (.bool false)], args := [d] }
  | _ => none }
def IntervalCentsWrongFalsely : Prop := intervalCentsRow.holds Tryz.pinned (OpenSpec.ofChange intervalCentsWrong)

/-- 'bombardelaw05.IntervalGroup': WHATEVER THE INPUT: true; the input reads as it did. -/
def intervalGroupSpec : ChangeSpec := { name := "intervalGroup", fn := fun _ => fun
  | [d1, d2, d3] => { results := [.lit (.bool true)], args := [d1, d2, d3] }
  | _ => none }
def intervalGroupRow : OpenClaim := { program := "ythdoadkdofgenaagreatdoor", sum := "f1a151d0f1e57350b9b6592964b6a01ab172572d353efbcbcfc2dc4d6ff1f131", func := "bombarde/bombardelaw05.IntervalGroup", spec := "intervalGroup", inPlace := ["internal/abi.NoEscape", "internal/bytealg.MakeNoZero"], unfollowed := true, recurses := true, named := ["bombarde/interval.names", "internal/strconv.uint64pow10", "math/bits.deBruijn32tab", "math/bits.deBruijn64tab", "strconv.ErrSyntax", "strconv.ErrRange"], apart := false, laid := [("math/bits.deBruijn32tab", laid_math_bits_deBruijn32tab), ("math/bits.deBruijn64tab", laid_math_bits_deBruijn64tab), ("internal/strconv.uint64pow10", laid_internal_strconv_uint64pow10), ("strconv.ErrRange", laid_strconv_ErrRange), ("strconv.ErrSyntax", laid_strconv_ErrSyntax), ("bombarde/interval.names", laid_bombarde_interval_names)] }
def IntervalGroupSaid : Prop := intervalGroupRow.holds Tryz.pinned (OpenSpec.ofChange intervalGroupSpec)

/-- ITS FALSE NEIGHBOUR: 'it returns false'. Refute it at one input. -/
def intervalGroupWrong : ChangeSpec := { name := "intervalGroup", fn := fun _ => fun
  | [d1, d2, d3] => { results := [.lit (.bool false)], args := [d1, d2, d3] }
  | _ => none }
def IntervalGroupWrongFalsely : Prop := intervalGroupRow.holds Tryz.pinned (OpenSpec.ofChange intervalGroupWrong)

/-- 'bombardelaw05.IntervalParts': WHATEVER THE INPUT: true; the input reads as it did. -/
def intervalPartsSpec : ChangeSpec := { name := "intervalParts", fn := fun _ => fun
  | [d1, d2, d3] => { results := [.lit (.bool true)], args := [d1, d2, d3] }
  | _ => none }
def intervalPartsRow : OpenClaim := { program := "ythdoadkdofgenaagreatdoor", sum := "f1a151d0f1e57350b9b6592964b6a01ab172572d353efbcbcfc2dc4d6ff1f131", func := "bombarde/bombardelaw05.IntervalParts", spec := "intervalParts", inPlace := ["internal/abi.NoEscape", "internal/bytealg.MakeNoZero"], unfollowed := true, recurses := true, named := ["bombarde/interval.names", "internal/strconv.uint64pow10", "math/bits.deBruijn32tab", "math/bits.deBruijn64tab", "strconv.ErrSyntax", "strconv.ErrRange"], apart := false, laid := [("math/bits.deBruijn32tab", laid_math_bits_deBruijn32tab), ("math/bits.deBruijn64tab", laid_math_bits_deBruijn64tab), ("internal/strconv.uint64pow10", laid_internal_strconv_uint64pow10), ("strconv.ErrRange", laid_strconv_ErrRange), ("strconv.ErrSyntax", laid_strconv_ErrSyntax), ("bombarde/interval.names", laid_bombarde_interval_names)] }
def IntervalPartsSaid : Prop := intervalPartsRow.holds Tryz.pinned (OpenSpec.ofChange intervalPartsSpec)

/-- ITS FALSE NEIGHBOUR: 'it returns false'. Refute it at one input. -/
def intervalPartsWrong : ChangeSpec := { name := "intervalParts", fn := fun _ => fun
  | [d1, d2, d3] => { results := [.lit (.bool false)], args := [d1, d2, d3] }
  | _ => none }
def IntervalPartsWrongFalsely : Prop := intervalPartsRow.holds Tryz.pinned (OpenSpec.ofChange intervalPartsWrong)

/- THE SECOND FORM. 'bulk': how many values and letters a reading holds, each counted each time it is reached (what is shared counts as often as it is met; a slice's spare places count too). A statement '..UptoSaid' is the law's where the arguments, and the package variables that the reading takes, are together of bulk at most 1048576: NARROWER than '..Said'. Prove '..Said' where nothing that the law and all that it calls make is longer than what came in: it says more and counts as full. Else prove '..UptoSaid'. A law counts once. -/
mutual
def uptoBulk {H : Type} : DataW H → Nat
  | .lit (.string bytes) => bytes.length + 1
  | .lit _ => 1
  | .nil => 1
  | .ptr d => uptoBulk d + 1
  | .slice elems spare => uptoBulkAll elems + uptoBulkAll spare + 1
  | .agg parts => uptoBulkAll parts + 1
  | .iface _ d => uptoBulk d + 1
  | .map entries => uptoBulkEntries entries + 1
  | .held _ => 1
def uptoBulkAll {H : Type} : List (DataW H) → Nat
  | [] => 0
  | d :: r => uptoBulk d + uptoBulkAll r
def uptoBulkEntries {H : Type} : List (Lit × DataW H) → Nat
  | [] => 0
  | x :: r => uptoBulkEntry x + uptoBulkEntries r
def uptoBulkEntry {H : Type} : Lit × DataW H → Nat
  | (.string bytes, d) => bytes.length + uptoBulk d + 1
  | (_, d) => uptoBulk d + 1
 end
def uptoSmall : (H : Type) → List (DataW H) → Bool := fun _ ds => decide (uptoBulkAll ds ≤ 1048576)
def OpenSpec.upto (s : _root_.Go.ChangeSpec) : _root_.Go.OpenSpec := { _root_.Go.OpenSpec.ofChange s with cond := some uptoSmall }

/-- 'bombardelaw05.IntervalChecks', WHERE WHAT IT READS IS OF BULK AT MOST 1048576: true; the input reads as it did. -/
def intervalChecksUptoRow : OpenClaim := { program := "ythdoadkdofgenaagreatdoor", sum := "f1a151d0f1e57350b9b6592964b6a01ab172572d353efbcbcfc2dc4d6ff1f131", func := "bombarde/bombardelaw05.IntervalChecks", spec := "intervalChecks", inPlace := ["internal/abi.NoEscape", "internal/bytealg.MakeNoZero"], unfollowed := true, recurses := true, named := ["bombarde/interval.names", "internal/strconv.uint64pow10", "math/bits.deBruijn32tab", "math/bits.deBruijn64tab", "strconv.ErrSyntax", "strconv.ErrRange"], apart := false, laid := [("math/bits.deBruijn32tab", laid_math_bits_deBruijn32tab), ("math/bits.deBruijn64tab", laid_math_bits_deBruijn64tab), ("internal/strconv.uint64pow10", laid_internal_strconv_uint64pow10), ("strconv.ErrRange", laid_strconv_ErrRange), ("strconv.ErrSyntax", laid_strconv_ErrSyntax), ("bombarde/interval.names", laid_bombarde_interval_names)], narrowed := true }
def IntervalChecksUptoSaid : Prop := intervalChecksUptoRow.holds Tryz.pinned (OpenSpec.upto intervalChecksSpec)

/-- 'bombardelaw05.IntervalMakes', WHERE WHAT IT READS IS OF BULK AT MOST 1048576: true; the input reads as it did. -/
def intervalMakesUptoRow : OpenClaim := { program := "ythdoadkdofgenaagreatdoor", sum := "f1a151d0f1e57350b9b6592964b6a01ab172572d353efbcbcfc2dc4d6ff1f131", func := "bombarde/bombardelaw05.IntervalMakes", spec := "intervalMakes", inPlace := ["internal/abi.NoEscape", "internal/bytealg.MakeNoZero"], unfollowed := true, recurses := true, named := ["bombarde/interval.names", "internal/strconv.uint64pow10", "math/bits.deBruijn32tab", "math/bits.deBruijn64tab", "strconv.ErrSyntax", "strconv.ErrRange"], apart := false, laid := [("math/bits.deBruijn32tab", laid_math_bits_deBruijn32tab), ("math/bits.deBruijn64tab", laid_math_bits_deBruijn64tab), ("internal/strconv.uint64pow10", laid_internal_strconv_uint64pow10), ("strconv.ErrRange", laid_strconv_ErrRange), ("strconv.ErrSyntax", laid_strconv_ErrSyntax), ("bombarde/interval.names", laid_bombarde_interval_names)], narrowed := true }
def IntervalMakesUptoSaid : Prop := intervalMakesUptoRow.holds Tryz.pinned (OpenSpec.upto intervalMakesSpec)

/-- 'bombardelaw05.IntervalAdds', WHERE WHAT IT READS IS OF BULK AT MOST 1048576: true; the input reads as it did. -/
def intervalAddsUptoRow : OpenClaim := { program := "ythdoadkdofgenaagreatdoor", sum := "f1a151d0f1e57350b9b6592964b6a01ab172572d353efbcbcfc2dc4d6ff1f131", func := "bombarde/bombardelaw05.IntervalAdds", spec := "intervalAdds", inPlace := ["internal/abi.NoEscape", "internal/bytealg.MakeNoZero"], unfollowed := true, recurses := true, named := ["bombarde/interval.names", "internal/strconv.uint64pow10", "math/bits.deBruijn32tab", "math/bits.deBruijn64tab", "strconv.ErrSyntax", "strconv.ErrRange"], apart := false, laid := [("math/bits.deBruijn32tab", laid_math_bits_deBruijn32tab), ("math/bits.deBruijn64tab", laid_math_bits_deBruijn64tab), ("internal/strconv.uint64pow10", laid_internal_strconv_uint64pow10), ("strconv.ErrRange", laid_strconv_ErrRange), ("strconv.ErrSyntax", laid_strconv_ErrSyntax), ("bombarde/interval.names", laid_bombarde_interval_names)], narrowed := true }
def IntervalAddsUptoSaid : Prop := intervalAddsUptoRow.holds Tryz.pinned (OpenSpec.upto intervalAddsSpec)

/-- 'bombardelaw05.IntervalScales', WHERE WHAT IT READS IS OF BULK AT MOST 1048576: true; the input reads as it did. -/
def intervalScalesUptoRow : OpenClaim := { program := "ythdoadkdofgenaagreatdoor", sum := "f1a151d0f1e57350b9b6592964b6a01ab172572d353efbcbcfc2dc4d6ff1f131", func := "bombarde/bombardelaw05.IntervalScales", spec := "intervalScales", inPlace := ["internal/abi.NoEscape", "internal/bytealg.MakeNoZero"], unfollowed := true, recurses := true, named := ["bombarde/interval.names", "internal/strconv.uint64pow10", "math/bits.deBruijn32tab", "math/bits.deBruijn64tab", "strconv.ErrSyntax", "strconv.ErrRange"], apart := false, laid := [("math/bits.deBruijn32tab", laid_math_bits_deBruijn32tab), ("math/bits.deBruijn64tab", laid_math_bits_deBruijn64tab), ("internal/strconv.uint64pow10", laid_internal_strconv_uint64pow10), ("strconv.ErrRange", laid_strconv_ErrRange), ("strconv.ErrSyntax", laid_strconv_ErrSyntax), ("bombarde/interval.names", laid_bombarde_interval_names)], narrowed := true }
def IntervalScalesUptoSaid : Prop := intervalScalesUptoRow.holds Tryz.pinned (OpenSpec.upto intervalScalesSpec)

/-- 'bombardelaw05.IntervalCompares', WHERE WHAT IT READS IS OF BULK AT MOST 1048576: true; the input reads as it did. -/
def intervalComparesUptoRow : OpenClaim := { program := "ythdoadkdofgenaagreatdoor", sum := "f1a151d0f1e57350b9b6592964b6a01ab172572d353efbcbcfc2dc4d6ff1f131", func := "bombarde/bombardelaw05.IntervalCompares", spec := "intervalCompares", inPlace := ["internal/abi.NoEscape", "internal/bytealg.MakeNoZero"], unfollowed := true, recurses := true, named := ["bombarde/interval.names", "internal/strconv.uint64pow10", "math/bits.deBruijn32tab", "math/bits.deBruijn64tab", "strconv.ErrSyntax", "strconv.ErrRange"], apart := false, laid := [("math/bits.deBruijn32tab", laid_math_bits_deBruijn32tab), ("math/bits.deBruijn64tab", laid_math_bits_deBruijn64tab), ("internal/strconv.uint64pow10", laid_internal_strconv_uint64pow10), ("strconv.ErrRange", laid_strconv_ErrRange), ("strconv.ErrSyntax", laid_strconv_ErrSyntax), ("bombarde/interval.names", laid_bombarde_interval_names)], narrowed := true }
def IntervalComparesUptoSaid : Prop := intervalComparesUptoRow.holds Tryz.pinned (OpenSpec.upto intervalComparesSpec)

/-- 'bombardelaw05.IntervalReduces', WHERE WHAT IT READS IS OF BULK AT MOST 1048576: true; the input reads as it did. -/
def intervalReducesUptoRow : OpenClaim := { program := "ythdoadkdofgenaagreatdoor", sum := "f1a151d0f1e57350b9b6592964b6a01ab172572d353efbcbcfc2dc4d6ff1f131", func := "bombarde/bombardelaw05.IntervalReduces", spec := "intervalReduces", inPlace := ["internal/abi.NoEscape", "internal/bytealg.MakeNoZero"], unfollowed := true, recurses := true, named := ["bombarde/interval.names", "internal/strconv.uint64pow10", "math/bits.deBruijn32tab", "math/bits.deBruijn64tab", "strconv.ErrSyntax", "strconv.ErrRange"], apart := false, laid := [("math/bits.deBruijn32tab", laid_math_bits_deBruijn32tab), ("math/bits.deBruijn64tab", laid_math_bits_deBruijn64tab), ("internal/strconv.uint64pow10", laid_internal_strconv_uint64pow10), ("strconv.ErrRange", laid_strconv_ErrRange), ("strconv.ErrSyntax", laid_strconv_ErrSyntax), ("bombarde/interval.names", laid_bombarde_interval_names)], narrowed := true }
def IntervalReducesUptoSaid : Prop := intervalReducesUptoRow.holds Tryz.pinned (OpenSpec.upto intervalReducesSpec)

/-- 'bombardelaw05.IntervalCents', WHERE WHAT IT READS IS OF BULK AT MOST 1048576: true; the input reads as it did. -/
def intervalCentsUptoRow : OpenClaim := { program := "ythdoadkdofgenaagreatdoor", sum := "f1a151d0f1e57350b9b6592964b6a01ab172572d353efbcbcfc2dc4d6ff1f131", func := "bombarde/bombardelaw05.IntervalCents", spec := "intervalCents", inPlace := ["internal/abi.NoEscape", "internal/bytealg.MakeNoZero"], unfollowed := true, recurses := true, named := ["bombarde/interval.names", "internal/strconv.uint64pow10", "math/bits.deBruijn32tab", "math/bits.deBruijn64tab", "strconv.ErrSyntax", "strconv.ErrRange"], apart := false, laid := [("math/bits.deBruijn32tab", laid_math_bits_deBruijn32tab), ("math/bits.deBruijn64tab", laid_math_bits_deBruijn64tab), ("internal/strconv.uint64pow10", laid_internal_strconv_uint64pow10), ("strconv.ErrRange", laid_strconv_ErrRange), ("strconv.ErrSyntax", laid_strconv_ErrSyntax), ("bombarde/interval.names", laid_bombarde_interval_names)], narrowed := true }
def IntervalCentsUptoSaid : Prop := intervalCentsUptoRow.holds Tryz.pinned (OpenSpec.upto intervalCentsSpec)

/-- 'bombardelaw05.IntervalGroup', WHERE WHAT IT READS IS OF BULK AT MOST 1048576: true; the input reads as it did. -/
def intervalGroupUptoRow : OpenClaim := { program := "ythdoadkdofgenaagreatdoor", sum := "f1a151d0f1e57350b9b6592964b6a01ab172572d353efbcbcfc2dc4d6ff1f131", func := "bombarde/bombardelaw05.IntervalGroup", spec := "intervalGroup", inPlace := ["internal/abi.NoEscape", "internal/bytealg.MakeNoZero"], unfollowed := true, recurses := true, named := ["bombarde/interval.names", "internal/strconv.uint64pow10", "math/bits.deBruijn32tab", "math/bits.deBruijn64tab", "strconv.ErrSyntax", "strconv.ErrRange"], apart := false, laid := [("math/bits.deBruijn32tab", laid_math_bits_deBruijn32tab), ("math/bits.deBruijn64tab", laid_math_bits_deBruijn64tab), ("internal/strconv.uint64pow10", laid_internal_strconv_uint64pow10), ("strconv.ErrRange", laid_strconv_ErrRange), ("strconv.ErrSyntax", laid_strconv_ErrSyntax), ("bombarde/interval.names", laid_bombarde_interval_names)], narrowed := true }
def IntervalGroupUptoSaid : Prop := intervalGroupUptoRow.holds Tryz.pinned (OpenSpec.upto intervalGroupSpec)

/-- 'bombardelaw05.IntervalParts', WHERE WHAT IT READS IS OF BULK AT MOST 1048576: true; the input reads as it did. -/
def intervalPartsUptoRow : OpenClaim := { program := "ythdoadkdofgenaagreatdoor", sum := "f1a151d0f1e57350b9b6592964b6a01ab172572d353efbcbcfc2dc4d6ff1f131", func := "bombarde/bombardelaw05.IntervalParts", spec := "intervalParts", inPlace := ["internal/abi.NoEscape", "internal/bytealg.MakeNoZero"], unfollowed := true, recurses := true, named := ["bombarde/interval.names", "internal/strconv.uint64pow10", "math/bits.deBruijn32tab", "math/bits.deBruijn64tab", "strconv.ErrSyntax", "strconv.ErrRange"], apart := false, laid := [("math/bits.deBruijn32tab", laid_math_bits_deBruijn32tab), ("math/bits.deBruijn64tab", laid_math_bits_deBruijn64tab), ("internal/strconv.uint64pow10", laid_internal_strconv_uint64pow10), ("strconv.ErrRange", laid_strconv_ErrRange), ("strconv.ErrSyntax", laid_strconv_ErrSyntax), ("bombarde/interval.names", laid_bombarde_interval_names)], narrowed := true }
def IntervalPartsUptoSaid : Prop := intervalPartsUptoRow.holds Tryz.pinned (OpenSpec.upto intervalPartsSpec)

end Rows
end Go.Proofs.YthdoadkdofgenaaGreatDoor
