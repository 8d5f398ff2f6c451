/-
  NARROWER THAN 'FOR EVERY INPUT', by the rows' own cells (each row's printed sentence says how): NotesetNames: laid · NotesetOf: laid · NotesetRanges: laid · NotesetMembers: laid · NotesetCombines: laid · NotesetShifts: laid · NotesetTexts: laid · NotesetParses: laid · NotesetLaws: laid · NotesetReturns: laid.
  DERIVED. THE GIVEN ROWS OF THIS SEAT. 10 by the template 'for every input the law returns true; each argument reads behind the call as it read before'; 0 by the template 'total and deterministic' (their statements: YtibdnfcbgcbdeaaDoorTotals.lean).
  GIVEN WITH THE SEED: the statements are not yours to turn. If you find one false, say at which input.
  Laid BY PROGRAM, IN A SANDBOX (cutbox-rows.mjs): the forced cells as the released guide's own fill.sh prints them over the translation 59a6ae4bd318fe09… (all of the seat's roots in one cut). By AI agents, Wed Nov 11 2026. No macro, syntax, notation, axiom, sorry.
-/
import Derived.Test.YtibdnfcbgcbdeaaDoorChecked
import GoSem.PinnedTables
import GoSem.Claim
import GoSem.ClaimJoined
import GoSem.ClaimMapViews
import Derived.JoinedTies
import Derived.KernelRfl
namespace Go.Proofs.YtibdnfcbgcbdeaaDoor
/- THE CELL 'sum', in the pinned program and in every row, IS THE sha256 OF THE DUMP (.gsa) THAT YtibdnfcbgcbdeaaDoorProg.lean LOADS. Nothing in Lean hashes anything: it is a label: what it is worth is what the hold of that sum in a sandbox is worth. -/
noncomputable def Tryd.pinned : Pinned := { name := "ytibdnfcbgcbdeaadoor", sum := "59a6ae4bd318fe0979a10edfa64242aa44a1852db74f4b82cf2f36032238f5df", checked := Tryd.checked }
namespace Rows
def none {H : Type} : Left H := { results := [], args := [] }

/- WHAT THE LISTED PACKAGE-LEVEL VARIABLES READ AS WHEN THE CALL BEGINS. Each datum BY PROGRAM (the guide's laid-datum.mjs) off the statement by which the dump's own 'gosem.cut.vars' lays the variable. In a bare row this is a premise. The card (YtibdnfcbgcbdeaaDoorCards.lean) ties it to the program's text. -/
def laid_math_bits_deBruijn32tab {H : Type} : DataW H := .agg [.lit (.int .u8 0), .lit (.int .u8 1), .lit (.int .u8 28), .lit (.int .u8 2), .lit (.int .u8 29), .lit (.int .u8 14), .lit (.int .u8 24), .lit (.int .u8 3), .lit (.int .u8 30), .lit (.int .u8 22), .lit (.int .u8 20), .lit (.int .u8 15), .lit (.int .u8 25), .lit (.int .u8 17), .lit (.int .u8 4), .lit (.int .u8 8), .lit (.int .u8 31), .lit (.int .u8 27), .lit (.int .u8 13), .lit (.int .u8 23), .lit (.int .u8 21), .lit (.int .u8 19), .lit (.int .u8 16), .lit (.int .u8 7), .lit (.int .u8 26), .lit (.int .u8 12), .lit (.int .u8 18), .lit (.int .u8 6), .lit (.int .u8 11), .lit (.int .u8 5), .lit (.int .u8 10), .lit (.int .u8 9)]
def laid_math_bits_deBruijn64tab {H : Type} : DataW H := .agg [.lit (.int .u8 0), .lit (.int .u8 1), .lit (.int .u8 56), .lit (.int .u8 2), .lit (.int .u8 57), .lit (.int .u8 49), .lit (.int .u8 28), .lit (.int .u8 3), .lit (.int .u8 61), .lit (.int .u8 58), .lit (.int .u8 42), .lit (.int .u8 50), .lit (.int .u8 38), .lit (.int .u8 29), .lit (.int .u8 17), .lit (.int .u8 4), .lit (.int .u8 62), .lit (.int .u8 47), .lit (.int .u8 59), .lit (.int .u8 36), .lit (.int .u8 45), .lit (.int .u8 43), .lit (.int .u8 51), .lit (.int .u8 22), .lit (.int .u8 53), .lit (.int .u8 39), .lit (.int .u8 33), .lit (.int .u8 30), .lit (.int .u8 24), .lit (.int .u8 18), .lit (.int .u8 12), .lit (.int .u8 5), .lit (.int .u8 63), .lit (.int .u8 55), .lit (.int .u8 48), .lit (.int .u8 27), .lit (.int .u8 60), .lit (.int .u8 41), .lit (.int .u8 37), .lit (.int .u8 16), .lit (.int .u8 46), .lit (.int .u8 35), .lit (.int .u8 44), .lit (.int .u8 21), .lit (.int .u8 52), .lit (.int .u8 32), .lit (.int .u8 23), .lit (.int .u8 11), .lit (.int .u8 54), .lit (.int .u8 26), .lit (.int .u8 40), .lit (.int .u8 15), .lit (.int .u8 34), .lit (.int .u8 20), .lit (.int .u8 31), .lit (.int .u8 10), .lit (.int .u8 25), .lit (.int .u8 14), .lit (.int .u8 19), .lit (.int .u8 9), .lit (.int .u8 13), .lit (.int .u8 8), .lit (.int .u8 7), .lit (.int .u8 6)]
def laid_internal_strconv_uint64pow10 {H : Type} : DataW H := .agg [.lit (.int .u64 1), .lit (.int .u64 10), .lit (.int .u64 100), .lit (.int .u64 1000), .lit (.int .u64 10000), .lit (.int .u64 100000), .lit (.int .u64 1000000), .lit (.int .u64 10000000), .lit (.int .u64 100000000), .lit (.int .u64 1000000000), .lit (.int .u64 10000000000), .lit (.int .u64 100000000000), .lit (.int .u64 1000000000000), .lit (.int .u64 10000000000000), .lit (.int .u64 100000000000000), .lit (.int .u64 1000000000000000), .lit (.int .u64 10000000000000000), .lit (.int .u64 100000000000000000), .lit (.int .u64 1000000000000000000), .lit (.int .u64 10000000000000000000)]
def laid_bombarde_noteset_letters {H : Type} : DataW H := .agg [.lit (.string [67]), .lit (.string [67, 35]), .lit (.string [68]), .lit (.string [68, 35]), .lit (.string [69]), .lit (.string [70]), .lit (.string [70, 35]), .lit (.string [71]), .lit (.string [71, 35]), .lit (.string [65]), .lit (.string [65, 35]), .lit (.string [66])]
def laid_unicode_utf8_acceptRanges {H : Type} : DataW H := .agg [.agg [.lit (.int .u8 128), .lit (.int .u8 191)], .agg [.lit (.int .u8 160), .lit (.int .u8 191)], .agg [.lit (.int .u8 128), .lit (.int .u8 159)], .agg [.lit (.int .u8 144), .lit (.int .u8 191)], .agg [.lit (.int .u8 128), .lit (.int .u8 143)], .agg [.lit (.int .u8 0), .lit (.int .u8 0)], .agg [.lit (.int .u8 0), .lit (.int .u8 0)], .agg [.lit (.int .u8 0), .lit (.int .u8 0)], .agg [.lit (.int .u8 0), .lit (.int .u8 0)], .agg [.lit (.int .u8 0), .lit (.int .u8 0)], .agg [.lit (.int .u8 0), .lit (.int .u8 0)], .agg [.lit (.int .u8 0), .lit (.int .u8 0)], .agg [.lit (.int .u8 0), .lit (.int .u8 0)], .agg [.lit (.int .u8 0), .lit (.int .u8 0)], .agg [.lit (.int .u8 0), .lit (.int .u8 0)], .agg [.lit (.int .u8 0), .lit (.int .u8 0)]]
/-- One of Go's own tables, pinned by name: the form's constant. -/
def laid_unicode_utf8_first : DataW Unit := Go.Pinned.utf8First

/-- 'bombardelaw03.NotesetNames': WHATEVER THE INPUT: true; the input reads as it did. -/
def notesetNamesSpec : ChangeSpec := { name := "notesetNames", fn := fun _ => fun
  | [d1, d2] => { results := [.lit (.bool true)], args := [d1, d2] }
  | _ => none }
def notesetNamesRow : OpenClaim := { program := "ytibdnfcbgcbdeaadoor", sum := "59a6ae4bd318fe0979a10edfa64242aa44a1852db74f4b82cf2f36032238f5df", func := "bombarde/bombardelaw03.NotesetNames", spec := "notesetNames", inPlace := ["internal/abi.NoEscape", "internal/bytealg.MakeNoZero"], unfollowed := true, recurses := true, named := ["bombarde/noteset.letters", "math/bits.deBruijn64tab", "internal/strconv.uint64pow10", "math/bits.deBruijn32tab"], apart := false, laid := [("math/bits.deBruijn32tab", laid_math_bits_deBruijn32tab), ("math/bits.deBruijn64tab", laid_math_bits_deBruijn64tab), ("internal/strconv.uint64pow10", laid_internal_strconv_uint64pow10), ("bombarde/noteset.letters", laid_bombarde_noteset_letters)] }
def NotesetNamesSaid : Prop := notesetNamesRow.holds Tryd.pinned (OpenSpec.ofChange notesetNamesSpec)

/-- ITS FALSE NEIGHBOUR: 'it returns false'. Refute it at one input. -/
def notesetNamesWrong : ChangeSpec := { name := "notesetNames", fn := fun _ => fun
  | [d1, d2] => { results := [.lit (.bool false)], args := [d1, d2] }
  | _ => none }
def NotesetNamesWrongFalsely : Prop := notesetNamesRow.holds Tryd.pinned (OpenSpec.ofChange notesetNamesWrong)

/-- 'bombardelaw03.NotesetOf': WHATEVER THE INPUT: true; the input reads as it did. -/
def notesetOfSpec : ChangeSpec := { name := "notesetOf", fn := fun _ => fun
  | [d] => { results := [.lit (.bool true)], args := [d] }
  | _ => none }
def notesetOfRow : OpenClaim := { program := "ytibdnfcbgcbdeaadoor", sum := "59a6ae4bd318fe0979a10edfa64242aa44a1852db74f4b82cf2f36032238f5df", func := "bombarde/bombardelaw03.NotesetOf", spec := "notesetOf", inPlace := ["internal/abi.NoEscape", "internal/bytealg.MakeNoZero"], unfollowed := true, recurses := true, named := ["bombarde/noteset.letters", "math/bits.deBruijn64tab", "internal/strconv.uint64pow10", "math/bits.deBruijn32tab"], apart := false, laid := [("math/bits.deBruijn32tab", laid_math_bits_deBruijn32tab), ("math/bits.deBruijn64tab", laid_math_bits_deBruijn64tab), ("internal/strconv.uint64pow10", laid_internal_strconv_uint64pow10), ("bombarde/noteset.letters", laid_bombarde_noteset_letters)] }
def NotesetOfSaid : Prop := notesetOfRow.holds Tryd.pinned (OpenSpec.ofChange notesetOfSpec)

/-- ITS FALSE NEIGHBOUR: 'it returns false'. Refute it at one input. -/
def notesetOfWrong : ChangeSpec := { name := "notesetOf", fn := fun _ => fun
  | [d] => { results := [.lit (.bool false)], args := [d] }
  | _ => none }
def NotesetOfWrongFalsely : Prop := notesetOfRow.holds Tryd.pinned (OpenSpec.ofChange notesetOfWrong)

/-- 'bombardelaw03.NotesetRanges': WHATEVER THE INPUT: true; the input reads as it did. -/
def notesetRangesSpec : ChangeSpec := { name := "notesetRanges", fn := fun _ => fun
  | [d] => { results := [.lit (.bool true)], args := [d] }
  | _ => none }
def notesetRangesRow : OpenClaim := { program := "ytibdnfcbgcbdeaadoor", sum := "59a6ae4bd318fe0979a10edfa64242aa44a1852db74f4b82cf2f36032238f5df", func := "bombarde/bombardelaw03.NotesetRanges", spec := "notesetRanges", inPlace := ["internal/abi.NoEscape", "internal/bytealg.MakeNoZero"], unfollowed := true, recurses := true, named := ["bombarde/noteset.letters", "math/bits.deBruijn64tab", "internal/strconv.uint64pow10", "math/bits.deBruijn32tab"], apart := false, laid := [("math/bits.deBruijn32tab", laid_math_bits_deBruijn32tab), ("math/bits.deBruijn64tab", laid_math_bits_deBruijn64tab), ("internal/strconv.uint64pow10", laid_internal_strconv_uint64pow10), ("bombarde/noteset.letters", laid_bombarde_noteset_letters)] }
def NotesetRangesSaid : Prop := notesetRangesRow.holds Tryd.pinned (OpenSpec.ofChange notesetRangesSpec)

/-- ITS FALSE NEIGHBOUR: 'it returns false'. Refute it at one input. -/
def notesetRangesWrong : ChangeSpec := { name := "notesetRanges", fn := fun _ => fun
  | [d] => { results := [.lit (.bool false)], args := [d] }
  | _ => none }
def NotesetRangesWrongFalsely : Prop := notesetRangesRow.holds Tryd.pinned (OpenSpec.ofChange notesetRangesWrong)

/-- 'bombardelaw03.NotesetMembers': WHATEVER THE INPUT: true; the input reads as it did. -/
def notesetMembersSpec : ChangeSpec := { name := "notesetMembers", fn := fun _ => fun
  | [d1, d2] => { results := [.lit (.bool true)], args := [d1, d2] }
  | _ => none }
def notesetMembersRow : OpenClaim := { program := "ytibdnfcbgcbdeaadoor", sum := "59a6ae4bd318fe0979a10edfa64242aa44a1852db74f4b82cf2f36032238f5df", func := "bombarde/bombardelaw03.NotesetMembers", spec := "notesetMembers", inPlace := ["internal/abi.NoEscape", "internal/bytealg.MakeNoZero"], unfollowed := true, recurses := true, named := ["bombarde/noteset.letters", "math/bits.deBruijn64tab", "internal/strconv.uint64pow10", "math/bits.deBruijn32tab"], apart := false, laid := [("math/bits.deBruijn32tab", laid_math_bits_deBruijn32tab), ("math/bits.deBruijn64tab", laid_math_bits_deBruijn64tab), ("internal/strconv.uint64pow10", laid_internal_strconv_uint64pow10), ("bombarde/noteset.letters", laid_bombarde_noteset_letters)] }
def NotesetMembersSaid : Prop := notesetMembersRow.holds Tryd.pinned (OpenSpec.ofChange notesetMembersSpec)

/-- ITS FALSE NEIGHBOUR: 'it returns false'. Refute it at one input. -/
def notesetMembersWrong : ChangeSpec := { name := "notesetMembers", fn := fun _ => fun
  | [d1, d2] => { results := [.lit (.bool false)], args := [d1, d2] }
  | _ => none }
def NotesetMembersWrongFalsely : Prop := notesetMembersRow.holds Tryd.pinned (OpenSpec.ofChange notesetMembersWrong)

/-- 'bombardelaw03.NotesetCombines': WHATEVER THE INPUT: true; the input reads as it did. -/
def notesetCombinesSpec : ChangeSpec := { name := "notesetCombines", fn := fun _ => fun
  | [d1, d2, d3] => { results := [.lit (.bool true)], args := [d1, d2, d3] }
  | _ => none }
def notesetCombinesRow : OpenClaim := { program := "ytibdnfcbgcbdeaadoor", sum := "59a6ae4bd318fe0979a10edfa64242aa44a1852db74f4b82cf2f36032238f5df", func := "bombarde/bombardelaw03.NotesetCombines", spec := "notesetCombines", inPlace := ["internal/abi.NoEscape", "internal/bytealg.MakeNoZero"], unfollowed := true, recurses := true, named := ["bombarde/noteset.letters", "math/bits.deBruijn64tab", "internal/strconv.uint64pow10", "math/bits.deBruijn32tab"], apart := false, laid := [("math/bits.deBruijn32tab", laid_math_bits_deBruijn32tab), ("math/bits.deBruijn64tab", laid_math_bits_deBruijn64tab), ("internal/strconv.uint64pow10", laid_internal_strconv_uint64pow10), ("bombarde/noteset.letters", laid_bombarde_noteset_letters)] }
def NotesetCombinesSaid : Prop := notesetCombinesRow.holds Tryd.pinned (OpenSpec.ofChange notesetCombinesSpec)

/-- ITS FALSE NEIGHBOUR: 'it returns false'. Refute it at one input. -/
def notesetCombinesWrong : ChangeSpec := { name := "notesetCombines", fn := fun _ => fun
  | [d1, d2, d3] => { results := [.lit (.bool false)], args := [d1, d2, d3] }
  | _ => none }
def NotesetCombinesWrongFalsely : Prop := notesetCombinesRow.holds Tryd.pinned (OpenSpec.ofChange notesetCombinesWrong)

/-- 'bombardelaw03.NotesetShifts': WHATEVER THE INPUT: true; the input reads as it did. -/
def notesetShiftsSpec : ChangeSpec := { name := "notesetShifts", fn := fun _ => fun
  | [d1, d2] => { results := [.lit (.bool true)], args := [d1, d2] }
  | _ => none }
def notesetShiftsRow : OpenClaim := { program := "ytibdnfcbgcbdeaadoor", sum := "59a6ae4bd318fe0979a10edfa64242aa44a1852db74f4b82cf2f36032238f5df", func := "bombarde/bombardelaw03.NotesetShifts", spec := "notesetShifts", inPlace := ["internal/abi.NoEscape", "internal/bytealg.MakeNoZero"], unfollowed := true, recurses := true, named := ["bombarde/noteset.letters", "math/bits.deBruijn64tab", "internal/strconv.uint64pow10", "math/bits.deBruijn32tab"], apart := false, laid := [("math/bits.deBruijn32tab", laid_math_bits_deBruijn32tab), ("math/bits.deBruijn64tab", laid_math_bits_deBruijn64tab), ("internal/strconv.uint64pow10", laid_internal_strconv_uint64pow10), ("bombarde/noteset.letters", laid_bombarde_noteset_letters)] }
def NotesetShiftsSaid : Prop := notesetShiftsRow.holds Tryd.pinned (OpenSpec.ofChange notesetShiftsSpec)

/-- ITS FALSE NEIGHBOUR: 'it returns false'. Refute it at one input. -/
def notesetShiftsWrong : ChangeSpec := { name := "notesetShifts", fn := fun _ => fun
  | [d1, d2] => { results := [.lit (.bool false)], args := [d1, d2] }
  | _ => none }
def NotesetShiftsWrongFalsely : Prop := notesetShiftsRow.holds Tryd.pinned (OpenSpec.ofChange notesetShiftsWrong)

/-- 'bombardelaw03.NotesetTexts': WHATEVER THE INPUT: true; the input reads as it did. -/
def notesetTextsSpec : ChangeSpec := { name := "notesetTexts", fn := fun _ => fun
  | [d] => { results := [.lit (.bool true)], args := [d] }
  | _ => none }
def notesetTextsRow : OpenClaim := { program := "ytibdnfcbgcbdeaadoor", sum := "59a6ae4bd318fe0979a10edfa64242aa44a1852db74f4b82cf2f36032238f5df", func := "bombarde/bombardelaw03.NotesetTexts", spec := "notesetTexts", inPlace := ["internal/abi.NoEscape", "internal/bytealg.MakeNoZero", "internal/bytealg.CountString", "internal/bytealg.IndexByteString", "internal/bytealg.IndexString"], unfollowed := true, recurses := true, named := ["bombarde/noteset.letters", "math/bits.deBruijn64tab", "internal/strconv.uint64pow10", "math/bits.deBruijn32tab", "unicode/utf8.first", "unicode/utf8.acceptRanges", "internal/bytealg.MaxLen"], apart := false, laid := [("math/bits.deBruijn32tab", laid_math_bits_deBruijn32tab), ("math/bits.deBruijn64tab", laid_math_bits_deBruijn64tab), ("internal/strconv.uint64pow10", laid_internal_strconv_uint64pow10), ("unicode/utf8.acceptRanges", laid_unicode_utf8_acceptRanges), ("bombarde/noteset.letters", laid_bombarde_noteset_letters), ("unicode/utf8.first", laid_unicode_utf8_first)] }
def NotesetTextsSaid : Prop := notesetTextsRow.holds Tryd.pinned (OpenSpec.ofChange notesetTextsSpec)

/-- ITS FALSE NEIGHBOUR: 'it returns false'. Refute it at one input. -/
def notesetTextsWrong : ChangeSpec := { name := "notesetTexts", fn := fun _ => fun
  | [d] => { results := [.lit (.bool false)], args := [d] }
  | _ => none }
def NotesetTextsWrongFalsely : Prop := notesetTextsRow.holds Tryd.pinned (OpenSpec.ofChange notesetTextsWrong)

/-- 'bombardelaw03.NotesetParses': WHATEVER THE INPUT: true; the input reads as it did. -/
def notesetParsesSpec : ChangeSpec := { name := "notesetParses", fn := fun _ => fun
  | [d] => { results := [.lit (.bool true)], args := [d] }
  | _ => none }
def notesetParsesRow : OpenClaim := { program := "ytibdnfcbgcbdeaadoor", sum := "59a6ae4bd318fe0979a10edfa64242aa44a1852db74f4b82cf2f36032238f5df", func := "bombarde/bombardelaw03.NotesetParses", spec := "notesetParses", inPlace := ["internal/abi.NoEscape", "internal/bytealg.MakeNoZero", "internal/bytealg.CountString", "internal/bytealg.IndexByteString", "internal/bytealg.IndexString"], unfollowed := true, recurses := true, named := ["bombarde/noteset.letters", "math/bits.deBruijn64tab", "internal/strconv.uint64pow10", "math/bits.deBruijn32tab", "unicode/utf8.first", "unicode/utf8.acceptRanges", "internal/bytealg.MaxLen"], apart := false, laid := [("math/bits.deBruijn32tab", laid_math_bits_deBruijn32tab), ("math/bits.deBruijn64tab", laid_math_bits_deBruijn64tab), ("internal/strconv.uint64pow10", laid_internal_strconv_uint64pow10), ("unicode/utf8.acceptRanges", laid_unicode_utf8_acceptRanges), ("bombarde/noteset.letters", laid_bombarde_noteset_letters), ("unicode/utf8.first", laid_unicode_utf8_first)] }
def NotesetParsesSaid : Prop := notesetParsesRow.holds Tryd.pinned (OpenSpec.ofChange notesetParsesSpec)

/-- ITS FALSE NEIGHBOUR: 'it returns false'. Refute it at one input. -/
def notesetParsesWrong : ChangeSpec := { name := "notesetParses", fn := fun _ => fun
  | [d] => { results := [.lit (.bool false)], args := [d] }
  | _ => none }
def NotesetParsesWrongFalsely : Prop := notesetParsesRow.holds Tryd.pinned (OpenSpec.ofChange notesetParsesWrong)

/-- 'bombardelaw03.NotesetLaws': WHATEVER THE INPUT: true; the input reads as it did. -/
def notesetLawsSpec : ChangeSpec := { name := "notesetLaws", fn := fun _ => fun
  | [d1, d2] => { results := [.lit (.bool true)], args := [d1, d2] }
  | _ => none }
def notesetLawsRow : OpenClaim := { program := "ytibdnfcbgcbdeaadoor", sum := "59a6ae4bd318fe0979a10edfa64242aa44a1852db74f4b82cf2f36032238f5df", func := "bombarde/bombardelaw03.NotesetLaws", spec := "notesetLaws", inPlace := ["internal/abi.NoEscape", "internal/bytealg.MakeNoZero"], unfollowed := true, recurses := true, named := ["bombarde/noteset.letters", "math/bits.deBruijn64tab", "internal/strconv.uint64pow10", "math/bits.deBruijn32tab"], apart := false, laid := [("math/bits.deBruijn32tab", laid_math_bits_deBruijn32tab), ("math/bits.deBruijn64tab", laid_math_bits_deBruijn64tab), ("internal/strconv.uint64pow10", laid_internal_strconv_uint64pow10), ("bombarde/noteset.letters", laid_bombarde_noteset_letters)] }
def NotesetLawsSaid : Prop := notesetLawsRow.holds Tryd.pinned (OpenSpec.ofChange notesetLawsSpec)

/-- ITS FALSE NEIGHBOUR: 'it returns false'. Refute it at one input. -/
def notesetLawsWrong : ChangeSpec := { name := "notesetLaws", fn := fun _ => fun
  | [d1, d2] => { results := [.lit (.bool false)], args := [d1, d2] }
  | _ => none }
def NotesetLawsWrongFalsely : Prop := notesetLawsRow.holds Tryd.pinned (OpenSpec.ofChange notesetLawsWrong)

/-- 'bombardelaw03.NotesetReturns': WHATEVER THE INPUT: true; the input reads as it did. -/
def notesetReturnsSpec : ChangeSpec := { name := "notesetReturns", fn := fun _ => fun
  | [d1, d2] => { results := [.lit (.bool true)], args := [d1, d2] }
  | _ => none }
def notesetReturnsRow : OpenClaim := { program := "ytibdnfcbgcbdeaadoor", sum := "59a6ae4bd318fe0979a10edfa64242aa44a1852db74f4b82cf2f36032238f5df", func := "bombarde/bombardelaw03.NotesetReturns", spec := "notesetReturns", inPlace := ["internal/abi.NoEscape", "internal/bytealg.MakeNoZero"], unfollowed := true, recurses := true, named := ["bombarde/noteset.letters", "math/bits.deBruijn64tab", "internal/strconv.uint64pow10", "math/bits.deBruijn32tab"], apart := false, laid := [("math/bits.deBruijn32tab", laid_math_bits_deBruijn32tab), ("math/bits.deBruijn64tab", laid_math_bits_deBruijn64tab), ("internal/strconv.uint64pow10", laid_internal_strconv_uint64pow10), ("bombarde/noteset.letters", laid_bombarde_noteset_letters)] }
def NotesetReturnsSaid : Prop := notesetReturnsRow.holds Tryd.pinned (OpenSpec.ofChange notesetReturnsSpec)

/-- ITS FALSE NEIGHBOUR: 'it returns false'. Refute it at one input. -/
def notesetReturnsWrong : ChangeSpec := { name := "notesetReturns", fn := fun _ => fun
  | [d1, d2] => { results := [.lit (.bool false)], args := [d1, d2] }
  | _ => none }
def NotesetReturnsWrongFalsely : Prop := notesetReturnsRow.holds Tryd.pinned (OpenSpec.ofChange notesetReturnsWrong)

/- THE SECOND FORM. 'bulk': how many values and letters a reading holds, each counted each time it is reached (what is shared counts as often as it is met; a slice's spare places count too). A statement '..UptoSaid' is the law's where the arguments, and the package variables that the reading takes, are together of bulk at most 1048576: NARROWER than '..Said'. Prove '..Said' where nothing that the law and all that it calls make is longer than what came in: it says more and counts as full. Else prove '..UptoSaid'. A law counts once. -/
mutual
def uptoBulk {H : Type} : DataW H → Nat
  | .lit (.string bytes) => bytes.length + 1
  | .lit _ => 1
  | .nil => 1
  | .ptr d => uptoBulk d + 1
  | .slice elems spare => uptoBulkAll elems + uptoBulkAll spare + 1
  | .agg parts => uptoBulkAll parts + 1
  | .iface _ d => uptoBulk d + 1
  | .map entries => uptoBulkEntries entries + 1
  | .held _ => 1
def uptoBulkAll {H : Type} : List (DataW H) → Nat
  | [] => 0
  | d :: r => uptoBulk d + uptoBulkAll r
def uptoBulkEntries {H : Type} : List (Lit × DataW H) → Nat
  | [] => 0
  | x :: r => uptoBulkEntry x + uptoBulkEntries r
def uptoBulkEntry {H : Type} : Lit × DataW H → Nat
  | (.string bytes, d) => bytes.length + uptoBulk d + 1
  | (_, d) => uptoBulk d + 1
 end
def uptoSmall : (H : Type) → List (DataW H) → Bool := fun _ ds => decide (uptoBulkAll ds ≤ 1048576)
def OpenSpec.upto (s : _root_.Go.ChangeSpec) : _root_.Go.OpenSpec := { _root_.Go.OpenSpec.ofChange s with cond := some uptoSmall }

/-- 'bombardelaw03.NotesetNames', WHERE WHAT IT READS IS OF BULK AT MOST 1048576: true; the input reads as it did. -/
def notesetNamesUptoRow : OpenClaim := { program := "ytibdnfcbgcbdeaadoor", sum := "59a6ae4bd318fe0979a10edfa64242aa44a1852db74f4b82cf2f36032238f5df", func := "bombarde/bombardelaw03.NotesetNames", spec := "notesetNames", inPlace := ["internal/abi.NoEscape", "internal/bytealg.MakeNoZero"], unfollowed := true, recurses := true, named := ["bombarde/noteset.letters", "math/bits.deBruijn64tab", "internal/strconv.uint64pow10", "math/bits.deBruijn32tab"], apart := false, laid := [("math/bits.deBruijn32tab", laid_math_bits_deBruijn32tab), ("math/bits.deBruijn64tab", laid_math_bits_deBruijn64tab), ("internal/strconv.uint64pow10", laid_internal_strconv_uint64pow10), ("bombarde/noteset.letters", laid_bombarde_noteset_letters)], narrowed := true }
def NotesetNamesUptoSaid : Prop := notesetNamesUptoRow.holds Tryd.pinned (OpenSpec.upto notesetNamesSpec)

/-- 'bombardelaw03.NotesetOf', WHERE WHAT IT READS IS OF BULK AT MOST 1048576: true; the input reads as it did. -/
def notesetOfUptoRow : OpenClaim := { program := "ytibdnfcbgcbdeaadoor", sum := "59a6ae4bd318fe0979a10edfa64242aa44a1852db74f4b82cf2f36032238f5df", func := "bombarde/bombardelaw03.NotesetOf", spec := "notesetOf", inPlace := ["internal/abi.NoEscape", "internal/bytealg.MakeNoZero"], unfollowed := true, recurses := true, named := ["bombarde/noteset.letters", "math/bits.deBruijn64tab", "internal/strconv.uint64pow10", "math/bits.deBruijn32tab"], apart := false, laid := [("math/bits.deBruijn32tab", laid_math_bits_deBruijn32tab), ("math/bits.deBruijn64tab", laid_math_bits_deBruijn64tab), ("internal/strconv.uint64pow10", laid_internal_strconv_uint64pow10), ("bombarde/noteset.letters", laid_bombarde_noteset_letters)], narrowed := true }
def NotesetOfUptoSaid : Prop := notesetOfUptoRow.holds Tryd.pinned (OpenSpec.upto notesetOfSpec)

/-- 'bombardelaw03.NotesetRanges', WHERE WHAT IT READS IS OF BULK AT MOST 1048576: true; the input reads as it did. -/
def notesetRangesUptoRow : OpenClaim := { program := "ytibdnfcbgcbdeaadoor", sum := "59a6ae4bd318fe0979a10edfa64242aa44a1852db74f4b82cf2f36032238f5df", func := "bombarde/bombardelaw03.NotesetRanges", spec := "notesetRanges", inPlace := ["internal/abi.NoEscape", "internal/bytealg.MakeNoZero"], unfollowed := true, recurses := true, named := ["bombarde/noteset.letters", "math/bits.deBruijn64tab", "internal/strconv.uint64pow10", "math/bits.deBruijn32tab"], apart := false, laid := [("math/bits.deBruijn32tab", laid_math_bits_deBruijn32tab), ("math/bits.deBruijn64tab", laid_math_bits_deBruijn64tab), ("internal/strconv.uint64pow10", laid_internal_strconv_uint64pow10), ("bombarde/noteset.letters", laid_bombarde_noteset_letters)], narrowed := true }
def NotesetRangesUptoSaid : Prop := notesetRangesUptoRow.holds Tryd.pinned (OpenSpec.upto notesetRangesSpec)

/-- 'bombardelaw03.NotesetMembers', WHERE WHAT IT READS IS OF BULK AT MOST 1048576: true; the input reads as it did. -/
def notesetMembersUptoRow : OpenClaim := { program := "ytibdnfcbgcbdeaadoor", sum := "59a6ae4bd318fe0979a10edfa64242aa44a1852db74f4b82cf2f36032238f5df", func := "bombarde/bombardelaw03.NotesetMembers", spec := "notesetMembers", inPlace := ["internal/abi.NoEscape", "internal/bytealg.MakeNoZero"], unfollowed := true, recurses := true, named := ["bombarde/noteset.letters", "math/bits.deBruijn64tab", "internal/strconv.uint64pow10", "math/bits.deBruijn32tab"], apart := false, laid := [("math/bits.deBruijn32tab", laid_math_bits_deBruijn32tab), ("math/bits.deBruijn64tab", laid_math_bits_deBruijn64tab), ("internal/strconv.uint64pow10", laid_internal_strconv_uint64pow10), ("bombarde/noteset.letters", laid_bombarde_noteset_letters)], narrowed := true }
def NotesetMembersUptoSaid : Prop := notesetMembersUptoRow.holds Tryd.pinned (OpenSpec.upto notesetMembersSpec)

/-- 'bombardelaw03.NotesetCombines', WHERE WHAT IT READS IS OF BULK AT MOST 1048576: true; the input reads as it did. -/
def notesetCombinesUptoRow : OpenClaim := { program := "ytibdnfcbgcbdeaadoor", sum := "59a6ae4bd318fe0979a10edfa64242aa44a1852db74f4b82cf2f36032238f5df", func := "bombarde/bombardelaw03.NotesetCombines", spec := "notesetCombines", inPlace := ["internal/abi.NoEscape", "internal/bytealg.MakeNoZero"], unfollowed := true, recurses := true, named := ["bombarde/noteset.letters", "math/bits.deBruijn64tab", "internal/strconv.uint64pow10", "math/bits.deBruijn32tab"], apart := false, laid := [("math/bits.deBruijn32tab", laid_math_bits_deBruijn32tab), ("math/bits.deBruijn64tab", laid_math_bits_deBruijn64tab), ("internal/strconv.uint64pow10", laid_internal_strconv_uint64pow10), ("bombarde/noteset.letters", laid_bombarde_noteset_letters)], narrowed := true }
def NotesetCombinesUptoSaid : Prop := notesetCombinesUptoRow.holds Tryd.pinned (OpenSpec.upto notesetCombinesSpec)

/-- 'bombardelaw03.NotesetShifts', WHERE WHAT IT READS IS OF BULK AT MOST 1048576: true; the input reads as it did. -/
def notesetShiftsUptoRow : OpenClaim := { program := "ytibdnfcbgcbdeaadoor", sum := "59a6ae4bd318fe0979a10edfa64242aa44a1852db74f4b82cf2f36032238f5df", func := "bombarde/bombardelaw03.NotesetShifts", spec := "notesetShifts", inPlace := ["internal/abi.NoEscape", "internal/bytealg.MakeNoZero"], unfollowed := true, recurses := true, named := ["bombarde/noteset.letters", "math/bits.deBruijn64tab", "internal/strconv.uint64pow10", "math/bits.deBruijn32tab"], apart := false, laid := [("math/bits.deBruijn32tab", laid_math_bits_deBruijn32tab), ("math/bits.deBruijn64tab", laid_math_bits_deBruijn64tab), ("internal/strconv.uint64pow10", laid_internal_strconv_uint64pow10), ("bombarde/noteset.letters", laid_bombarde_noteset_letters)], narrowed := true }
def NotesetShiftsUptoSaid : Prop := notesetShiftsUptoRow.holds Tryd.pinned (OpenSpec.upto notesetShiftsSpec)

/-- 'bombardelaw03.NotesetTexts', WHERE WHAT IT READS IS OF BULK AT MOST 1048576: true; the input reads as it did. -/
def notesetTextsUptoRow : OpenClaim := { program := "ytibdnfcbgcbdeaadoor", sum := "59a6ae4bd318fe0979a10edfa64242aa44a1852db74f4b82cf2f36032238f5df", func := "bombarde/bombardelaw03.NotesetTexts", spec := "notesetTexts", inPlace := ["internal/abi.NoEscape", "internal/bytealg.MakeNoZero", "internal/bytealg.CountString", "internal/bytealg.IndexByteString", "internal/bytealg.IndexString"], unfollowed := true, recurses := true, named := ["bombarde/noteset.letters", "math/bits.deBruijn64tab", "internal/strconv.uint64pow10", "math/bits.deBruijn32tab", "unicode/utf8.first", "unicode/utf8.acceptRanges", "internal/bytealg.MaxLen"], apart := false, laid := [("math/bits.deBruijn32tab", laid_math_bits_deBruijn32tab), ("math/bits.deBruijn64tab", laid_math_bits_deBruijn64tab), ("internal/strconv.uint64pow10", laid_internal_strconv_uint64pow10), ("unicode/utf8.acceptRanges", laid_unicode_utf8_acceptRanges), ("bombarde/noteset.letters", laid_bombarde_noteset_letters), ("unicode/utf8.first", laid_unicode_utf8_first)], narrowed := true }
def NotesetTextsUptoSaid : Prop := notesetTextsUptoRow.holds Tryd.pinned (OpenSpec.upto notesetTextsSpec)

/-- 'bombardelaw03.NotesetParses', WHERE WHAT IT READS IS OF BULK AT MOST 1048576: true; the input reads as it did. -/
def notesetParsesUptoRow : OpenClaim := { program := "ytibdnfcbgcbdeaadoor", sum := "59a6ae4bd318fe0979a10edfa64242aa44a1852db74f4b82cf2f36032238f5df", func := "bombarde/bombardelaw03.NotesetParses", spec := "notesetParses", inPlace := ["internal/abi.NoEscape", "internal/bytealg.MakeNoZero", "internal/bytealg.CountString", "internal/bytealg.IndexByteString", "internal/bytealg.IndexString"], unfollowed := true, recurses := true, named := ["bombarde/noteset.letters", "math/bits.deBruijn64tab", "internal/strconv.uint64pow10", "math/bits.deBruijn32tab", "unicode/utf8.first", "unicode/utf8.acceptRanges", "internal/bytealg.MaxLen"], apart := false, laid := [("math/bits.deBruijn32tab", laid_math_bits_deBruijn32tab), ("math/bits.deBruijn64tab", laid_math_bits_deBruijn64tab), ("internal/strconv.uint64pow10", laid_internal_strconv_uint64pow10), ("unicode/utf8.acceptRanges", laid_unicode_utf8_acceptRanges), ("bombarde/noteset.letters", laid_bombarde_noteset_letters), ("unicode/utf8.first", laid_unicode_utf8_first)], narrowed := true }
def NotesetParsesUptoSaid : Prop := notesetParsesUptoRow.holds Tryd.pinned (OpenSpec.upto notesetParsesSpec)

/-- 'bombardelaw03.NotesetLaws', WHERE WHAT IT READS IS OF BULK AT MOST 1048576: true; the input reads as it did. -/
def notesetLawsUptoRow : OpenClaim := { program := "ytibdnfcbgcbdeaadoor", sum := "59a6ae4bd318fe0979a10edfa64242aa44a1852db74f4b82cf2f36032238f5df", func := "bombarde/bombardelaw03.NotesetLaws", spec := "notesetLaws", inPlace := ["internal/abi.NoEscape", "internal/bytealg.MakeNoZero"], unfollowed := true, recurses := true, named := ["bombarde/noteset.letters", "math/bits.deBruijn64tab", "internal/strconv.uint64pow10", "math/bits.deBruijn32tab"], apart := false, laid := [("math/bits.deBruijn32tab", laid_math_bits_deBruijn32tab), ("math/bits.deBruijn64tab", laid_math_bits_deBruijn64tab), ("internal/strconv.uint64pow10", laid_internal_strconv_uint64pow10), ("bombarde/noteset.letters", laid_bombarde_noteset_letters)], narrowed := true }
def NotesetLawsUptoSaid : Prop := notesetLawsUptoRow.holds Tryd.pinned (OpenSpec.upto notesetLawsSpec)

/-- 'bombardelaw03.NotesetReturns', WHERE WHAT IT READS IS OF BULK AT MOST 1048576: true; the input reads as it did. -/
def notesetReturnsUptoRow : OpenClaim := { program := "ytibdnfcbgcbdeaadoor", sum := "59a6ae4bd318fe0979a10edfa64242aa44a1852db74f4b82cf2f36032238f5df", func := "bombarde/bombardelaw03.NotesetReturns", spec := "notesetReturns", inPlace := ["internal/abi.NoEscape", "internal/bytealg.MakeNoZero"], unfollowed := true, recurses := true, named := ["bombarde/noteset.letters", "math/bits.deBruijn64tab", "internal/strconv.uint64pow10", "math/bits.deBruijn32tab"], apart := false, laid := [("math/bits.deBruijn32tab", laid_math_bits_deBruijn32tab), ("math/bits.deBruijn64tab", laid_math_bits_deBruijn64tab), ("internal/strconv.uint64pow10", laid_internal_strconv_uint64pow10), ("bombarde/noteset.letters", laid_bombarde_noteset_letters)], narrowed := true }
def NotesetReturnsUptoSaid : Prop := notesetReturnsUptoRow.holds Tryd.pinned (OpenSpec.upto notesetReturnsSpec)

end Rows
end Go.Proofs.YtibdnfcbgcbdeaaDoor
