/-
  DERIVED. GIVEN WITH THE SEED: THE CARDS: each row of YtlkihmjaigojmaaDoorRows.lean that lists a variable, with what it lists TIED to the program's text (the seventh form; the later family's looks); each row that meets fmt, with fmt's text TOLD by the authors' own Lean function (tested against real Go, not proved from fmt's source: count such statements apart). THE CARD IS WHAT COUNTS. Prove the row's statement (the work); the ties are given (YtlkihmjaigojmaaDoorTie.lean); close each card by the builder's one call (the guide's Derived/Test/ToyasCard.lean, 'card_holds'). Laid BY PROGRAM, IN A SANDBOX (cutbox-door.mjs). By AI agents, Wed Nov 11 2026. No macro, syntax, notation, axiom, sorry.
-/
import Derived.Test.YtlkihmjaigojmaaDoorRows
import GoSem.ClaimSeven
namespace Go.Proofs.YtlkihmjaigojmaaDoor
namespace Rows

/-- THE TIED CARD OF 'turnbucklelaw07.AluDoes'. -/
def aluDoesCard : Claim7 := { stood := { row := aluDoesRow, standIns := [], harness := (true, "d3ccf827b5bbeff33cc60e54e8141e13c0b9f6359397317fecc93274b634cc82"), looks := false }, kinds := [], alts := [], laidByText := true, laidKinds := [.data], laidTests := true, laidLooks := .later }
def AluDoesCardSaid : Prop := Claim7.holds Tryd.pinned (.plain (OpenSpec.ofChange aluDoesSpec)) aluDoesCard

/-- THE TIED CARD OF 'turnbucklelaw07.AluHolds'. -/
def aluHoldsCard : Claim7 := { stood := { row := aluHoldsRow, standIns := [], harness := (true, "d3ccf827b5bbeff33cc60e54e8141e13c0b9f6359397317fecc93274b634cc82"), looks := false }, kinds := [], alts := [], laidByText := true, laidKinds := [.data], laidTests := true, laidLooks := .later }
def AluHoldsCardSaid : Prop := Claim7.holds Tryd.pinned (.plain (OpenSpec.ofChange aluHoldsSpec)) aluHoldsCard

/-- THE TIED CARD OF 'turnbucklelaw07.AluBack'. -/
def aluBackCard : Claim7 := { stood := { row := aluBackRow, standIns := [], harness := (true, "d3ccf827b5bbeff33cc60e54e8141e13c0b9f6359397317fecc93274b634cc82"), looks := false }, kinds := [], alts := [], laidByText := true, laidKinds := [.data], laidTests := true, laidLooks := .later }
def AluBackCardSaid : Prop := Claim7.holds Tryd.pinned (.plain (OpenSpec.ofChange aluBackSpec)) aluBackCard

/-- THE TIED CARD OF 'turnbucklelaw07.AluShifts'. -/
def aluShiftsCard : Claim7 := { stood := { row := aluShiftsRow, standIns := [], harness := (true, "d3ccf827b5bbeff33cc60e54e8141e13c0b9f6359397317fecc93274b634cc82"), looks := false }, kinds := [], alts := [], laidByText := true, laidKinds := [.data], laidTests := true, laidLooks := .later }
def AluShiftsCardSaid : Prop := Claim7.holds Tryd.pinned (.plain (OpenSpec.ofChange aluShiftsSpec)) aluShiftsCard

/-- THE TIED CARD OF 'turnbucklelaw07.AluOpposite'. -/
def aluOppositeCard : Claim7 := { stood := { row := aluOppositeRow, standIns := [], harness := (true, "d3ccf827b5bbeff33cc60e54e8141e13c0b9f6359397317fecc93274b634cc82"), looks := false }, kinds := [], alts := [], laidByText := true, laidKinds := [.data], laidTests := true, laidLooks := .later }
def AluOppositeCardSaid : Prop := Claim7.holds Tryd.pinned (.plain (OpenSpec.ofChange aluOppositeSpec)) aluOppositeCard

/-- THE TIED CARD OF 'turnbucklelaw07.AluBits'. -/
def aluBitsCard : Claim7 := { stood := { row := aluBitsRow, standIns := [], harness := (true, "d3ccf827b5bbeff33cc60e54e8141e13c0b9f6359397317fecc93274b634cc82"), looks := false }, kinds := [], alts := [], laidByText := true, laidKinds := [.data], laidTests := true, laidLooks := .later }
def AluBitsCardSaid : Prop := Claim7.holds Tryd.pinned (.plain (OpenSpec.ofChange aluBitsSpec)) aluBitsCard

/-- THE TIED CARD OF 'turnbucklelaw07.AluRing'. -/
def aluRingCard : Claim7 := { stood := { row := aluRingRow, standIns := [], harness := (true, "d3ccf827b5bbeff33cc60e54e8141e13c0b9f6359397317fecc93274b634cc82"), looks := false }, kinds := [], alts := [], laidByText := true, laidKinds := [.data], laidTests := true, laidLooks := .later }
def AluRingCardSaid : Prop := Claim7.holds Tryd.pinned (.plain (OpenSpec.ofChange aluRingSpec)) aluRingCard

/-- THE SECOND FORM's CARD OF 'turnbucklelaw07.AluDoes'. -/
def aluDoesUptoCard : Claim7 := { stood := { row := aluDoesUptoRow, standIns := [], harness := (true, "d3ccf827b5bbeff33cc60e54e8141e13c0b9f6359397317fecc93274b634cc82"), looks := false }, kinds := [], alts := [], laidByText := true, laidKinds := [.data], laidTests := true, laidLooks := .later }
def AluDoesUptoCardSaid : Prop := Claim7.holds Tryd.pinned (.plain (OpenSpec.upto aluDoesSpec)) aluDoesUptoCard

/-- THE SECOND FORM's CARD OF 'turnbucklelaw07.AluHolds'. -/
def aluHoldsUptoCard : Claim7 := { stood := { row := aluHoldsUptoRow, standIns := [], harness := (true, "d3ccf827b5bbeff33cc60e54e8141e13c0b9f6359397317fecc93274b634cc82"), looks := false }, kinds := [], alts := [], laidByText := true, laidKinds := [.data], laidTests := true, laidLooks := .later }
def AluHoldsUptoCardSaid : Prop := Claim7.holds Tryd.pinned (.plain (OpenSpec.upto aluHoldsSpec)) aluHoldsUptoCard

/-- THE SECOND FORM's CARD OF 'turnbucklelaw07.AluBack'. -/
def aluBackUptoCard : Claim7 := { stood := { row := aluBackUptoRow, standIns := [], harness := (true, "d3ccf827b5bbeff33cc60e54e8141e13c0b9f6359397317fecc93274b634cc82"), looks := false }, kinds := [], alts := [], laidByText := true, laidKinds := [.data], laidTests := true, laidLooks := .later }
def AluBackUptoCardSaid : Prop := Claim7.holds Tryd.pinned (.plain (OpenSpec.upto aluBackSpec)) aluBackUptoCard

/-- THE SECOND FORM's CARD OF 'turnbucklelaw07.AluShifts'. -/
def aluShiftsUptoCard : Claim7 := { stood := { row := aluShiftsUptoRow, standIns := [], harness := (true, "d3ccf827b5bbeff33cc60e54e8141e13c0b9f6359397317fecc93274b634cc82"), looks := false }, kinds := [], alts := [], laidByText := true, laidKinds := [.data], laidTests := true, laidLooks := .later }
def AluShiftsUptoCardSaid : Prop := Claim7.holds Tryd.pinned (.plain (OpenSpec.upto aluShiftsSpec)) aluShiftsUptoCard

/-- THE SECOND FORM's CARD OF 'turnbucklelaw07.AluOpposite'. -/
def aluOppositeUptoCard : Claim7 := { stood := { row := aluOppositeUptoRow, standIns := [], harness := (true, "d3ccf827b5bbeff33cc60e54e8141e13c0b9f6359397317fecc93274b634cc82"), looks := false }, kinds := [], alts := [], laidByText := true, laidKinds := [.data], laidTests := true, laidLooks := .later }
def AluOppositeUptoCardSaid : Prop := Claim7.holds Tryd.pinned (.plain (OpenSpec.upto aluOppositeSpec)) aluOppositeUptoCard

/-- THE SECOND FORM's CARD OF 'turnbucklelaw07.AluBits'. -/
def aluBitsUptoCard : Claim7 := { stood := { row := aluBitsUptoRow, standIns := [], harness := (true, "d3ccf827b5bbeff33cc60e54e8141e13c0b9f6359397317fecc93274b634cc82"), looks := false }, kinds := [], alts := [], laidByText := true, laidKinds := [.data], laidTests := true, laidLooks := .later }
def AluBitsUptoCardSaid : Prop := Claim7.holds Tryd.pinned (.plain (OpenSpec.upto aluBitsSpec)) aluBitsUptoCard

/-- THE SECOND FORM's CARD OF 'turnbucklelaw07.AluRing'. -/
def aluRingUptoCard : Claim7 := { stood := { row := aluRingUptoRow, standIns := [], harness := (true, "d3ccf827b5bbeff33cc60e54e8141e13c0b9f6359397317fecc93274b634cc82"), looks := false }, kinds := [], alts := [], laidByText := true, laidKinds := [.data], laidTests := true, laidLooks := .later }
def AluRingUptoCardSaid : Prop := Claim7.holds Tryd.pinned (.plain (OpenSpec.upto aluRingSpec)) aluRingUptoCard
end Rows
end Go.Proofs.YtlkihmjaigojmaaDoor
