/-
  DERIVED. GIVEN WITH THE SEED: THE CARDS: each row of YthdoadkdofgenaaGreatDoorRows.lean that lists a variable, with what it lists TIED to the program's text (the seventh form; the later family's looks); each row that meets fmt, with fmt's text TOLD by the authors' own Lean function (tested against real Go, not proved from fmt's source: count such statements apart). THE CARD IS WHAT COUNTS. Prove the row's statement (the work); the ties are given (YthdoadkdofgenaaGreatDoorTie.lean); close each card by the builder's one call (the guide's Derived/Test/ToyasCard.lean, 'card_holds'). Laid BY PROGRAM, IN A SANDBOX (cutbox-door.mjs). By AI agents, Wed Nov 11 2026. No macro, syntax, notation, axiom, sorry.
-/
import Derived.Test.YthdoadkdofgenaaGreatDoorRows
import GoSem.ClaimSeven
namespace Go.Proofs.YthdoadkdofgenaaGreatDoor
namespace Rows

/-- THE TIED CARD OF 'bombardelaw05.IntervalChecks'. -/
def intervalChecksCard : Claim7 := { stood := { row := intervalChecksRow, standIns := [], harness := (true, "d6012bc6efebd9d3ea3f16c6f4893a8f9fa97a7b688d3bfb4ed33ccb2551d282"), looks := true }, kinds := [], alts := [], laidByText := true, laidKinds := [.data, .data, .data, .sentinel, .sentinel, .data], laidTests := true, laidLooks := .later }
def IntervalChecksCardSaid : Prop := Claim7.holds Tryz.pinned (.plain (OpenSpec.ofChange intervalChecksSpec)) intervalChecksCard

/-- THE TIED CARD OF 'bombardelaw05.IntervalMakes'. -/
def intervalMakesCard : Claim7 := { stood := { row := intervalMakesRow, standIns := [], harness := (true, "d6012bc6efebd9d3ea3f16c6f4893a8f9fa97a7b688d3bfb4ed33ccb2551d282"), looks := true }, kinds := [], alts := [], laidByText := true, laidKinds := [.data, .data, .data, .sentinel, .sentinel, .data], laidTests := true, laidLooks := .later }
def IntervalMakesCardSaid : Prop := Claim7.holds Tryz.pinned (.plain (OpenSpec.ofChange intervalMakesSpec)) intervalMakesCard

/-- THE TIED CARD OF 'bombardelaw05.IntervalAdds'. -/
def intervalAddsCard : Claim7 := { stood := { row := intervalAddsRow, standIns := [], harness := (true, "d6012bc6efebd9d3ea3f16c6f4893a8f9fa97a7b688d3bfb4ed33ccb2551d282"), looks := true }, kinds := [], alts := [], laidByText := true, laidKinds := [.data, .data, .data, .sentinel, .sentinel, .data], laidTests := true, laidLooks := .later }
def IntervalAddsCardSaid : Prop := Claim7.holds Tryz.pinned (.plain (OpenSpec.ofChange intervalAddsSpec)) intervalAddsCard

/-- THE TIED CARD OF 'bombardelaw05.IntervalScales'. -/
def intervalScalesCard : Claim7 := { stood := { row := intervalScalesRow, standIns := [], harness := (true, "d6012bc6efebd9d3ea3f16c6f4893a8f9fa97a7b688d3bfb4ed33ccb2551d282"), looks := true }, kinds := [], alts := [], laidByText := true, laidKinds := [.data, .data, .data, .sentinel, .sentinel, .data], laidTests := true, laidLooks := .later }
def IntervalScalesCardSaid : Prop := Claim7.holds Tryz.pinned (.plain (OpenSpec.ofChange intervalScalesSpec)) intervalScalesCard

/-- THE TIED CARD OF 'bombardelaw05.IntervalCompares'. -/
def intervalComparesCard : Claim7 := { stood := { row := intervalComparesRow, standIns := [], harness := (true, "d6012bc6efebd9d3ea3f16c6f4893a8f9fa97a7b688d3bfb4ed33ccb2551d282"), looks := true }, kinds := [], alts := [], laidByText := true, laidKinds := [.data, .data, .data, .sentinel, .sentinel, .data], laidTests := true, laidLooks := .later }
def IntervalComparesCardSaid : Prop := Claim7.holds Tryz.pinned (.plain (OpenSpec.ofChange intervalComparesSpec)) intervalComparesCard

/-- THE TIED CARD OF 'bombardelaw05.IntervalReduces'. -/
def intervalReducesCard : Claim7 := { stood := { row := intervalReducesRow, standIns := [], harness := (true, "d6012bc6efebd9d3ea3f16c6f4893a8f9fa97a7b688d3bfb4ed33ccb2551d282"), looks := true }, kinds := [], alts := [], laidByText := true, laidKinds := [.data, .data, .data, .sentinel, .sentinel, .data], laidTests := true, laidLooks := .later }
def IntervalReducesCardSaid : Prop := Claim7.holds Tryz.pinned (.plain (OpenSpec.ofChange intervalReducesSpec)) intervalReducesCard

/-- THE TIED CARD OF 'bombardelaw05.IntervalCents'. -/
def intervalCentsCard : Claim7 := { stood := { row := intervalCentsRow, standIns := [], harness := (true, "d6012bc6efebd9d3ea3f16c6f4893a8f9fa97a7b688d3bfb4ed33ccb2551d282"), looks := true }, kinds := [], alts := [], laidByText := true, laidKinds := [.data, .data, .data, .sentinel, .sentinel, .data], laidTests := true, laidLooks := .later }
def IntervalCentsCardSaid : Prop := Claim7.holds Tryz.pinned (.plain (OpenSpec.ofChange intervalCentsSpec)) intervalCentsCard

/-- THE TIED CARD OF 'bombardelaw05.IntervalGroup'. -/
def intervalGroupCard : Claim7 := { stood := { row := intervalGroupRow, standIns := [], harness := (true, "d6012bc6efebd9d3ea3f16c6f4893a8f9fa97a7b688d3bfb4ed33ccb2551d282"), looks := true }, kinds := [], alts := [], laidByText := true, laidKinds := [.data, .data, .data, .sentinel, .sentinel, .data], laidTests := true, laidLooks := .later }
def IntervalGroupCardSaid : Prop := Claim7.holds Tryz.pinned (.plain (OpenSpec.ofChange intervalGroupSpec)) intervalGroupCard

/-- THE TIED CARD OF 'bombardelaw05.IntervalParts'. -/
def intervalPartsCard : Claim7 := { stood := { row := intervalPartsRow, standIns := [], harness := (true, "d6012bc6efebd9d3ea3f16c6f4893a8f9fa97a7b688d3bfb4ed33ccb2551d282"), looks := true }, kinds := [], alts := [], laidByText := true, laidKinds := [.data, .data, .data, .sentinel, .sentinel, .data], laidTests := true, laidLooks := .later }
def IntervalPartsCardSaid : Prop := Claim7.holds Tryz.pinned (.plain (OpenSpec.ofChange intervalPartsSpec)) intervalPartsCard

/-- THE SECOND FORM's CARD OF 'bombardelaw05.IntervalChecks'. -/
def intervalChecksUptoCard : Claim7 := { stood := { row := intervalChecksUptoRow, standIns := [], harness := (true, "d6012bc6efebd9d3ea3f16c6f4893a8f9fa97a7b688d3bfb4ed33ccb2551d282"), looks := true }, kinds := [], alts := [], laidByText := true, laidKinds := [.data, .data, .data, .sentinel, .sentinel, .data], laidTests := true, laidLooks := .later }
def IntervalChecksUptoCardSaid : Prop := Claim7.holds Tryz.pinned (.plain (OpenSpec.upto intervalChecksSpec)) intervalChecksUptoCard

/-- THE SECOND FORM's CARD OF 'bombardelaw05.IntervalMakes'. -/
def intervalMakesUptoCard : Claim7 := { stood := { row := intervalMakesUptoRow, standIns := [], harness := (true, "d6012bc6efebd9d3ea3f16c6f4893a8f9fa97a7b688d3bfb4ed33ccb2551d282"), looks := true }, kinds := [], alts := [], laidByText := true, laidKinds := [.data, .data, .data, .sentinel, .sentinel, .data], laidTests := true, laidLooks := .later }
def IntervalMakesUptoCardSaid : Prop := Claim7.holds Tryz.pinned (.plain (OpenSpec.upto intervalMakesSpec)) intervalMakesUptoCard

/-- THE SECOND FORM's CARD OF 'bombardelaw05.IntervalAdds'. -/
def intervalAddsUptoCard : Claim7 := { stood := { row := intervalAddsUptoRow, standIns := [], harness := (true, "d6012bc6efebd9d3ea3f16c6f4893a8f9fa97a7b688d3bfb4ed33ccb2551d282"), looks := true }, kinds := [], alts := [], laidByText := true, laidKinds := [.data, .data, .data, .sentinel, .sentinel, .data], laidTests := true, laidLooks := .later }
def IntervalAddsUptoCardSaid : Prop := Claim7.holds Tryz.pinned (.plain (OpenSpec.upto intervalAddsSpec)) intervalAddsUptoCard

/-- THE SECOND FORM's CARD OF 'bombardelaw05.IntervalScales'. -/
def intervalScalesUptoCard : Claim7 := { stood := { row := intervalScalesUptoRow, standIns := [], harness := (true, "d6012bc6efebd9d3ea3f16c6f4893a8f9fa97a7b688d3bfb4ed33ccb2551d282"), looks := true }, kinds := [], alts := [], laidByText := true, laidKinds := [.data, .data, .data, .sentinel, .sentinel, .data], laidTests := true, laidLooks := .later }
def IntervalScalesUptoCardSaid : Prop := Claim7.holds Tryz.pinned (.plain (OpenSpec.upto intervalScalesSpec)) intervalScalesUptoCard

/-- THE SECOND FORM's CARD OF 'bombardelaw05.IntervalCompares'. -/
def intervalComparesUptoCard : Claim7 := { stood := { row := intervalComparesUptoRow, standIns := [], harness := (true, "d6012bc6efebd9d3ea3f16c6f4893a8f9fa97a7b688d3bfb4ed33ccb2551d282"), looks := true }, kinds := [], alts := [], laidByText := true, laidKinds := [.data, .data, .data, .sentinel, .sentinel, .data], laidTests := true, laidLooks := .later }
def IntervalComparesUptoCardSaid : Prop := Claim7.holds Tryz.pinned (.plain (OpenSpec.upto intervalComparesSpec)) intervalComparesUptoCard

/-- THE SECOND FORM's CARD OF 'bombardelaw05.IntervalReduces'. -/
def intervalReducesUptoCard : Claim7 := { stood := { row := intervalReducesUptoRow, standIns := [], harness := (true, "d6012bc6efebd9d3ea3f16c6f4893a8f9fa97a7b688d3bfb4ed33ccb2551d282"), looks := true }, kinds := [], alts := [], laidByText := true, laidKinds := [.data, .data, .data, .sentinel, .sentinel, .data], laidTests := true, laidLooks := .later }
def IntervalReducesUptoCardSaid : Prop := Claim7.holds Tryz.pinned (.plain (OpenSpec.upto intervalReducesSpec)) intervalReducesUptoCard

/-- THE SECOND FORM's CARD OF 'bombardelaw05.IntervalCents'. -/
def intervalCentsUptoCard : Claim7 := { stood := { row := intervalCentsUptoRow, standIns := [], harness := (true, "d6012bc6efebd9d3ea3f16c6f4893a8f9fa97a7b688d3bfb4ed33ccb2551d282"), looks := true }, kinds := [], alts := [], laidByText := true, laidKinds := [.data, .data, .data, .sentinel, .sentinel, .data], laidTests := true, laidLooks := .later }
def IntervalCentsUptoCardSaid : Prop := Claim7.holds Tryz.pinned (.plain (OpenSpec.upto intervalCentsSpec)) intervalCentsUptoCard

/-- THE SECOND FORM's CARD OF 'bombardelaw05.IntervalGroup'. -/
def intervalGroupUptoCard : Claim7 := { stood := { row := intervalGroupUptoRow, standIns := [], harness := (true, "d6012bc6efebd9d3ea3f16c6f4893a8f9fa97a7b688d3bfb4ed33ccb2551d282"), looks := true }, kinds := [], alts := [], laidByText := true, laidKinds := [.data, .data, .data, .sentinel, .sentinel, .data], laidTests := true, laidLooks := .later }
def IntervalGroupUptoCardSaid : Prop := Claim7.holds Tryz.pinned (.plain (OpenSpec.upto intervalGroupSpec)) intervalGroupUptoCard

/-- THE SECOND FORM's CARD OF 'bombardelaw05.IntervalParts'. -/
def intervalPartsUptoCard : Claim7 := { stood := { row := intervalPartsUptoRow, standIns := [], harness := (true, "d6012bc6efebd9d3ea3f16c6f4893a8f9fa97a7b688d3bfb4ed33ccb2551d282"), looks := true }, kinds := [], alts := [], laidByText := true, laidKinds := [.data, .data, .data, .sentinel, .sentinel, .data], laidTests := true, laidLooks := .later }
def IntervalPartsUptoCardSaid : Prop := Claim7.holds Tryz.pinned (.plain (OpenSpec.upto intervalPartsSpec)) intervalPartsUptoCard
end Rows
end Go.Proofs.YthdoadkdofgenaaGreatDoor
