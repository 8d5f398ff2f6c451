/-
  DERIVED. GIVEN WITH THE SEED: THE CARDS: each row of YtkoljddejjfbiaaGreatDoorRows.lean that lists a variable, with what it lists TIED to the program's text (the seventh form; the later family's looks); each row that meets fmt, with fmt's text TOLD by the authors' own Lean function (tested against real Go, not proved from fmt's source: count such statements apart). THE CARD IS WHAT COUNTS. Prove the row's statement (the work); the ties are given (YtkoljddejjfbiaaGreatDoorTie.lean); close each card by the builder's one call (the guide's Derived/Test/ToyasCard.lean, 'card_holds'). Laid BY PROGRAM, IN A SANDBOX (cutbox-door.mjs). By AI agents, Wed Nov 11 2026. No macro, syntax, notation, axiom, sorry.
-/
import Derived.Test.YtkoljddejjfbiaaGreatDoorRows
import GoSem.ClaimSeven
namespace Go.Proofs.YtkoljddejjfbiaaGreatDoor
namespace Rows

/-- THE TIED CARD OF 'bombardelaw13.PitchChecks'. -/
def pitchChecksCard : Claim7 := { stood := { row := pitchChecksRow, standIns := [], harness := (true, "d2b05d1f79031a4c0ccb3ee8b4b29e7df45101687a3d942f20c36698e9ed3300"), looks := true }, kinds := [], alts := [], laidByText := true, laidKinds := [.data, .data, .data, .sentinel, .sentinel], laidTests := true, laidLooks := .later }
def PitchChecksCardSaid : Prop := Claim7.holds Tryz.pinned (.plain (OpenSpec.ofChange pitchChecksSpec)) pitchChecksCard

/-- THE TIED CARD OF 'bombardelaw13.PitchShifts'. -/
def pitchShiftsCard : Claim7 := { stood := { row := pitchShiftsRow, standIns := [], harness := (true, "d2b05d1f79031a4c0ccb3ee8b4b29e7df45101687a3d942f20c36698e9ed3300"), looks := true }, kinds := [], alts := [], laidByText := true, laidKinds := [.data, .data, .data, .sentinel, .sentinel], laidTests := true, laidLooks := .later }
def PitchShiftsCardSaid : Prop := Claim7.holds Tryz.pinned (.plain (OpenSpec.ofChange pitchShiftsSpec)) pitchShiftsCard

/-- THE TIED CARD OF 'bombardelaw13.PitchFeet'. -/
def pitchFeetCard : Claim7 := { stood := { row := pitchFeetRow, standIns := [], harness := (true, "d2b05d1f79031a4c0ccb3ee8b4b29e7df45101687a3d942f20c36698e9ed3300"), looks := true }, kinds := [], alts := [], laidByText := true, laidKinds := [.data, .data, .data, .sentinel, .sentinel, .data], laidTests := true, laidLooks := .later }
def PitchFeetCardSaid : Prop := Claim7.holds Tryz.pinned (.plain (OpenSpec.ofChange pitchFeetSpec)) pitchFeetCard

/-- THE TIED CARD OF 'bombardelaw13.PitchClasses'. -/
def pitchClassesCard : Claim7 := { stood := { row := pitchClassesRow, standIns := [], harness := (true, "d2b05d1f79031a4c0ccb3ee8b4b29e7df45101687a3d942f20c36698e9ed3300"), looks := true }, kinds := [], alts := [], laidByText := true, laidKinds := [.data, .data, .data, .sentinel, .sentinel], laidTests := true, laidLooks := .later }
def PitchClassesCardSaid : Prop := Claim7.holds Tryz.pinned (.plain (OpenSpec.ofChange pitchClassesSpec)) pitchClassesCard

/-- THE TIED CARD OF 'bombardelaw13.PitchSounds'. -/
def pitchSoundsCard : Claim7 := { stood := { row := pitchSoundsRow, standIns := [], harness := (true, "d2b05d1f79031a4c0ccb3ee8b4b29e7df45101687a3d942f20c36698e9ed3300"), looks := true }, kinds := [], alts := [], laidByText := true, laidKinds := [.data, .data, .data, .sentinel, .sentinel], laidTests := true, laidLooks := .later }
def PitchSoundsCardSaid : Prop := Claim7.holds Tryz.pinned (.plain (OpenSpec.ofChange pitchSoundsSpec)) pitchSoundsCard

/-- THE TIED CARD OF 'bombardelaw13.PitchTurns'. -/
def pitchTurnsCard : Claim7 := { stood := { row := pitchTurnsRow, standIns := [], harness := (true, "d2b05d1f79031a4c0ccb3ee8b4b29e7df45101687a3d942f20c36698e9ed3300"), looks := true }, kinds := [], alts := [], laidByText := true, laidKinds := [.data, .data, .data, .sentinel, .sentinel], laidTests := true, laidLooks := .later }
def PitchTurnsCardSaid : Prop := Claim7.holds Tryz.pinned (.plain (OpenSpec.ofChange pitchTurnsSpec)) pitchTurnsCard

/-- THE TIED CARD OF 'bombardelaw13.PitchRow'. -/
def pitchRowCard : Claim7 := { stood := { row := pitchRowRow, standIns := [], harness := (true, "d2b05d1f79031a4c0ccb3ee8b4b29e7df45101687a3d942f20c36698e9ed3300"), looks := true }, kinds := [], alts := [], laidByText := true, laidKinds := [.data, .data, .data, .sentinel, .sentinel, .data], laidTests := true, laidLooks := .later }
def PitchRowCardSaid : Prop := Claim7.holds Tryz.pinned (.plain (OpenSpec.ofChange pitchRowSpec)) pitchRowCard

/-- THE SECOND FORM's CARD OF 'bombardelaw13.PitchChecks'. -/
def pitchChecksUptoCard : Claim7 := { stood := { row := pitchChecksUptoRow, standIns := [], harness := (true, "d2b05d1f79031a4c0ccb3ee8b4b29e7df45101687a3d942f20c36698e9ed3300"), looks := true }, kinds := [], alts := [], laidByText := true, laidKinds := [.data, .data, .data, .sentinel, .sentinel], laidTests := true, laidLooks := .later }
def PitchChecksUptoCardSaid : Prop := Claim7.holds Tryz.pinned (.plain (OpenSpec.upto pitchChecksSpec)) pitchChecksUptoCard

/-- THE SECOND FORM's CARD OF 'bombardelaw13.PitchShifts'. -/
def pitchShiftsUptoCard : Claim7 := { stood := { row := pitchShiftsUptoRow, standIns := [], harness := (true, "d2b05d1f79031a4c0ccb3ee8b4b29e7df45101687a3d942f20c36698e9ed3300"), looks := true }, kinds := [], alts := [], laidByText := true, laidKinds := [.data, .data, .data, .sentinel, .sentinel], laidTests := true, laidLooks := .later }
def PitchShiftsUptoCardSaid : Prop := Claim7.holds Tryz.pinned (.plain (OpenSpec.upto pitchShiftsSpec)) pitchShiftsUptoCard

/-- THE SECOND FORM's CARD OF 'bombardelaw13.PitchFeet'. -/
def pitchFeetUptoCard : Claim7 := { stood := { row := pitchFeetUptoRow, standIns := [], harness := (true, "d2b05d1f79031a4c0ccb3ee8b4b29e7df45101687a3d942f20c36698e9ed3300"), looks := true }, kinds := [], alts := [], laidByText := true, laidKinds := [.data, .data, .data, .sentinel, .sentinel, .data], laidTests := true, laidLooks := .later }
def PitchFeetUptoCardSaid : Prop := Claim7.holds Tryz.pinned (.plain (OpenSpec.upto pitchFeetSpec)) pitchFeetUptoCard

/-- THE SECOND FORM's CARD OF 'bombardelaw13.PitchClasses'. -/
def pitchClassesUptoCard : Claim7 := { stood := { row := pitchClassesUptoRow, standIns := [], harness := (true, "d2b05d1f79031a4c0ccb3ee8b4b29e7df45101687a3d942f20c36698e9ed3300"), looks := true }, kinds := [], alts := [], laidByText := true, laidKinds := [.data, .data, .data, .sentinel, .sentinel], laidTests := true, laidLooks := .later }
def PitchClassesUptoCardSaid : Prop := Claim7.holds Tryz.pinned (.plain (OpenSpec.upto pitchClassesSpec)) pitchClassesUptoCard

/-- THE SECOND FORM's CARD OF 'bombardelaw13.PitchSounds'. -/
def pitchSoundsUptoCard : Claim7 := { stood := { row := pitchSoundsUptoRow, standIns := [], harness := (true, "d2b05d1f79031a4c0ccb3ee8b4b29e7df45101687a3d942f20c36698e9ed3300"), looks := true }, kinds := [], alts := [], laidByText := true, laidKinds := [.data, .data, .data, .sentinel, .sentinel], laidTests := true, laidLooks := .later }
def PitchSoundsUptoCardSaid : Prop := Claim7.holds Tryz.pinned (.plain (OpenSpec.upto pitchSoundsSpec)) pitchSoundsUptoCard

/-- THE SECOND FORM's CARD OF 'bombardelaw13.PitchTurns'. -/
def pitchTurnsUptoCard : Claim7 := { stood := { row := pitchTurnsUptoRow, standIns := [], harness := (true, "d2b05d1f79031a4c0ccb3ee8b4b29e7df45101687a3d942f20c36698e9ed3300"), looks := true }, kinds := [], alts := [], laidByText := true, laidKinds := [.data, .data, .data, .sentinel, .sentinel], laidTests := true, laidLooks := .later }
def PitchTurnsUptoCardSaid : Prop := Claim7.holds Tryz.pinned (.plain (OpenSpec.upto pitchTurnsSpec)) pitchTurnsUptoCard

/-- THE SECOND FORM's CARD OF 'bombardelaw13.PitchRow'. -/
def pitchRowUptoCard : Claim7 := { stood := { row := pitchRowUptoRow, standIns := [], harness := (true, "d2b05d1f79031a4c0ccb3ee8b4b29e7df45101687a3d942f20c36698e9ed3300"), looks := true }, kinds := [], alts := [], laidByText := true, laidKinds := [.data, .data, .data, .sentinel, .sentinel, .data], laidTests := true, laidLooks := .later }
def PitchRowUptoCardSaid : Prop := Claim7.holds Tryz.pinned (.plain (OpenSpec.upto pitchRowSpec)) pitchRowUptoCard
end Rows
end Go.Proofs.YtkoljddejjfbiaaGreatDoor
