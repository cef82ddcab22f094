/-
  DERIVED. GIVEN WITH THE SEED: THE CARDS: each row of YticgehmpfgdbhaaDoorRows.lean that lists a variable, with what it lists TIED to the program's text (the seventh form; the later family's looks); each row that meets fmt, with fmt's text TOLD by the authors' own Lean function (tested against real Go, not proved from fmt's source: count such statements apart). THE CARD IS WHAT COUNTS. Prove the row's statement (the work); the ties are given (YticgehmpfgdbhaaDoorTie.lean); close each card by the builder's one call (the guide's Derived/Test/ToyasCard.lean, 'card_holds'). Laid BY PROGRAM, IN A SANDBOX (cutbox-door.mjs). By AI agents, Wed Nov 11 2026. No macro, syntax, notation, axiom, sorry.
-/
import Derived.Test.YticgehmpfgdbhaaDoorRows
import GoSem.ClaimSeven
namespace Go.Proofs.YticgehmpfgdbhaaDoor
namespace Rows

/-- THE TIED CARD OF 'turnbucklelaw09.BranchRefines'. -/
def branchRefinesCard : Claim7 := { stood := { row := branchRefinesRow, standIns := [], harness := (true, "00e922e639fb22081172f71e517883913b717ca884e2c6b1a1be18fc0b8f6b01"), looks := false }, kinds := [], alts := [], laidByText := true, laidKinds := [.data], laidTests := true, laidLooks := .later }
def BranchRefinesCardSaid : Prop := Claim7.holds Tryd.pinned (.plain (OpenSpec.ofChange branchRefinesSpec)) branchRefinesCard

/-- THE TIED CARD OF 'turnbucklelaw09.BranchSound'. -/
def branchSoundCard : Claim7 := { stood := { row := branchSoundRow, standIns := [], harness := (true, "00e922e639fb22081172f71e517883913b717ca884e2c6b1a1be18fc0b8f6b01"), looks := false }, kinds := [], alts := [], laidByText := true, laidKinds := [.data], laidTests := true, laidLooks := .later }
def BranchSoundCardSaid : Prop := Claim7.holds Tryd.pinned (.plain (OpenSpec.ofChange branchSoundSpec)) branchSoundCard

/-- THE TIED CARD OF 'turnbucklelaw09.BranchWithin'. -/
def branchWithinCard : Claim7 := { stood := { row := branchWithinRow, standIns := [], harness := (true, "00e922e639fb22081172f71e517883913b717ca884e2c6b1a1be18fc0b8f6b01"), looks := false }, kinds := [], alts := [], laidByText := true, laidKinds := [.data], laidTests := true, laidLooks := .later }
def BranchWithinCardSaid : Prop := Claim7.holds Tryd.pinned (.plain (OpenSpec.ofChange branchWithinSpec)) branchWithinCard

/-- THE TIED CARD OF 'turnbucklelaw09.BranchTight'. -/
def branchTightCard : Claim7 := { stood := { row := branchTightRow, standIns := [], harness := (true, "00e922e639fb22081172f71e517883913b717ca884e2c6b1a1be18fc0b8f6b01"), looks := false }, kinds := [], alts := [], laidByText := true, laidKinds := [.data], laidTests := true, laidLooks := .later }
def BranchTightCardSaid : Prop := Claim7.holds Tryd.pinned (.plain (OpenSpec.ofChange branchTightSpec)) branchTightCard

/-- THE TIED CARD OF 'turnbucklelaw09.BranchTurned'. -/
def branchTurnedCard : Claim7 := { stood := { row := branchTurnedRow, standIns := [], harness := (true, "00e922e639fb22081172f71e517883913b717ca884e2c6b1a1be18fc0b8f6b01"), looks := false }, kinds := [], alts := [], laidByText := true, laidKinds := [.data], laidTests := true, laidLooks := .later }
def BranchTurnedCardSaid : Prop := Claim7.holds Tryd.pinned (.plain (OpenSpec.ofChange branchTurnedSpec)) branchTurnedCard

/-- THE TIED CARD OF 'turnbucklelaw09.BranchTwice'. -/
def branchTwiceCard : Claim7 := { stood := { row := branchTwiceRow, standIns := [], harness := (true, "00e922e639fb22081172f71e517883913b717ca884e2c6b1a1be18fc0b8f6b01"), looks := false }, kinds := [], alts := [], laidByText := true, laidKinds := [.data], laidTests := true, laidLooks := .later }
def BranchTwiceCardSaid : Prop := Claim7.holds Tryd.pinned (.plain (OpenSpec.ofChange branchTwiceSpec)) branchTwiceCard

/-- THE SECOND FORM's CARD OF 'turnbucklelaw09.BranchRefines'. -/
def branchRefinesUptoCard : Claim7 := { stood := { row := branchRefinesUptoRow, standIns := [], harness := (true, "00e922e639fb22081172f71e517883913b717ca884e2c6b1a1be18fc0b8f6b01"), looks := false }, kinds := [], alts := [], laidByText := true, laidKinds := [.data], laidTests := true, laidLooks := .later }
def BranchRefinesUptoCardSaid : Prop := Claim7.holds Tryd.pinned (.plain (OpenSpec.upto branchRefinesSpec)) branchRefinesUptoCard

/-- THE SECOND FORM's CARD OF 'turnbucklelaw09.BranchSound'. -/
def branchSoundUptoCard : Claim7 := { stood := { row := branchSoundUptoRow, standIns := [], harness := (true, "00e922e639fb22081172f71e517883913b717ca884e2c6b1a1be18fc0b8f6b01"), looks := false }, kinds := [], alts := [], laidByText := true, laidKinds := [.data], laidTests := true, laidLooks := .later }
def BranchSoundUptoCardSaid : Prop := Claim7.holds Tryd.pinned (.plain (OpenSpec.upto branchSoundSpec)) branchSoundUptoCard

/-- THE SECOND FORM's CARD OF 'turnbucklelaw09.BranchWithin'. -/
def branchWithinUptoCard : Claim7 := { stood := { row := branchWithinUptoRow, standIns := [], harness := (true, "00e922e639fb22081172f71e517883913b717ca884e2c6b1a1be18fc0b8f6b01"), looks := false }, kinds := [], alts := [], laidByText := true, laidKinds := [.data], laidTests := true, laidLooks := .later }
def BranchWithinUptoCardSaid : Prop := Claim7.holds Tryd.pinned (.plain (OpenSpec.upto branchWithinSpec)) branchWithinUptoCard

/-- THE SECOND FORM's CARD OF 'turnbucklelaw09.BranchTight'. -/
def branchTightUptoCard : Claim7 := { stood := { row := branchTightUptoRow, standIns := [], harness := (true, "00e922e639fb22081172f71e517883913b717ca884e2c6b1a1be18fc0b8f6b01"), looks := false }, kinds := [], alts := [], laidByText := true, laidKinds := [.data], laidTests := true, laidLooks := .later }
def BranchTightUptoCardSaid : Prop := Claim7.holds Tryd.pinned (.plain (OpenSpec.upto branchTightSpec)) branchTightUptoCard

/-- THE SECOND FORM's CARD OF 'turnbucklelaw09.BranchTurned'. -/
def branchTurnedUptoCard : Claim7 := { stood := { row := branchTurnedUptoRow, standIns := [], harness := (true, "00e922e639fb22081172f71e517883913b717ca884e2c6b1a1be18fc0b8f6b01"), looks := false }, kinds := [], alts := [], laidByText := true, laidKinds := [.data], laidTests := true, laidLooks := .later }
def BranchTurnedUptoCardSaid : Prop := Claim7.holds Tryd.pinned (.plain (OpenSpec.upto branchTurnedSpec)) branchTurnedUptoCard

/-- THE SECOND FORM's CARD OF 'turnbucklelaw09.BranchTwice'. -/
def branchTwiceUptoCard : Claim7 := { stood := { row := branchTwiceUptoRow, standIns := [], harness := (true, "00e922e639fb22081172f71e517883913b717ca884e2c6b1a1be18fc0b8f6b01"), looks := false }, kinds := [], alts := [], laidByText := true, laidKinds := [.data], laidTests := true, laidLooks := .later }
def BranchTwiceUptoCardSaid : Prop := Claim7.holds Tryd.pinned (.plain (OpenSpec.upto branchTwiceSpec)) branchTwiceUptoCard
end Rows
end Go.Proofs.YticgehmpfgdbhaaDoor
