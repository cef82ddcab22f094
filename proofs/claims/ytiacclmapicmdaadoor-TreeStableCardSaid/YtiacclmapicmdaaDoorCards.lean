/-
  DERIVED. GIVEN WITH THE SEED: THE CARDS: each row of YtiacclmapicmdaaDoorRows.lean that lists a variable, with what it lists TIED to the program's text (the seventh form; the later family's looks); each row that meets fmt, with fmt's text TOLD by the authors' own Lean function (tested against real Go, not proved from fmt's source: count such statements apart). THE CARD IS WHAT COUNTS. Prove the row's statement (the work); the ties are given (YtiacclmapicmdaaDoorTie.lean); close each card by the builder's one call (the guide's Derived/Test/ToyasCard.lean, 'card_holds'). Laid BY PROGRAM, IN A SANDBOX (cutbox-door.mjs). By AI agents, Wed Nov 11 2026. No macro, syntax, notation, axiom, sorry.
-/
import Derived.Test.YtiacclmapicmdaaDoorRows
import GoSem.ClaimSeven
namespace Go.Proofs.YtiacclmapicmdaaDoor
namespace Rows

/-- THE TIED CARD OF 'turnbucklelaw11.TreePlays'. -/
def treePlaysCard : Claim7 := { stood := { row := treePlaysRow, standIns := [], harness := (true, "cc651d72b2c395781ee2ca1c9b9ccca327c0e5ea5226c7abdb8ade901013fa94"), looks := false }, kinds := [], alts := [], laidByText := true, laidKinds := [.data], laidTests := true, laidLooks := .later }
def TreePlaysCardSaid : Prop := Claim7.holds Tryd.pinned (.plain (OpenSpec.ofChange treePlaysSpec)) treePlaysCard

/-- THE TIED CARD OF 'turnbucklelaw11.TreeRules'. -/
def treeRulesCard : Claim7 := { stood := { row := treeRulesRow, standIns := [], harness := (true, "cc651d72b2c395781ee2ca1c9b9ccca327c0e5ea5226c7abdb8ade901013fa94"), looks := false }, kinds := [], alts := [], laidByText := true, laidKinds := [.data], laidTests := true, laidLooks := .later }
def TreeRulesCardSaid : Prop := Claim7.holds Tryd.pinned (.plain (OpenSpec.ofChange treeRulesSpec)) treeRulesCard

/-- THE TIED CARD OF 'turnbucklelaw11.TreeStable'. -/
def treeStableCard : Claim7 := { stood := { row := treeStableRow, standIns := [], harness := (true, "cc651d72b2c395781ee2ca1c9b9ccca327c0e5ea5226c7abdb8ade901013fa94"), looks := false }, kinds := [], alts := [], laidByText := true, laidKinds := [.data], laidTests := true, laidLooks := .later }
def TreeStableCardSaid : Prop := Claim7.holds Tryd.pinned (.plain (OpenSpec.ofChange treeStableSpec)) treeStableCard

/-- THE TIED CARD OF 'turnbucklelaw11.TreeRange'. -/
def treeRangeCard : Claim7 := { stood := { row := treeRangeRow, standIns := [], harness := (true, "cc651d72b2c395781ee2ca1c9b9ccca327c0e5ea5226c7abdb8ade901013fa94"), looks := false }, kinds := [], alts := [], laidByText := true, laidKinds := [.data], laidTests := true, laidLooks := .later }
def TreeRangeCardSaid : Prop := Claim7.holds Tryd.pinned (.plain (OpenSpec.ofChange treeRangeSpec)) treeRangeCard

/-- THE TIED CARD OF 'turnbucklelaw11.TreeFirsts'. -/
def treeFirstsCard : Claim7 := { stood := { row := treeFirstsRow, standIns := [], harness := (true, "cc651d72b2c395781ee2ca1c9b9ccca327c0e5ea5226c7abdb8ade901013fa94"), looks := false }, kinds := [], alts := [], laidByText := true, laidKinds := [.data], laidTests := true, laidLooks := .later }
def TreeFirstsCardSaid : Prop := Claim7.holds Tryd.pinned (.plain (OpenSpec.ofChange treeFirstsSpec)) treeFirstsCard

/-- THE TIED CARD OF 'turnbucklelaw11.TreeDeep'. -/
def treeDeepCard : Claim7 := { stood := { row := treeDeepRow, standIns := [], harness := (true, "cc651d72b2c395781ee2ca1c9b9ccca327c0e5ea5226c7abdb8ade901013fa94"), looks := false }, kinds := [], alts := [], laidByText := true, laidKinds := [.data], laidTests := true, laidLooks := .later }
def TreeDeepCardSaid : Prop := Claim7.holds Tryd.pinned (.plain (OpenSpec.ofChange treeDeepSpec)) treeDeepCard

/-- THE SECOND FORM's CARD OF 'turnbucklelaw11.TreePlays'. -/
def treePlaysUptoCard : Claim7 := { stood := { row := treePlaysUptoRow, standIns := [], harness := (true, "cc651d72b2c395781ee2ca1c9b9ccca327c0e5ea5226c7abdb8ade901013fa94"), looks := false }, kinds := [], alts := [], laidByText := true, laidKinds := [.data], laidTests := true, laidLooks := .later }
def TreePlaysUptoCardSaid : Prop := Claim7.holds Tryd.pinned (.plain (OpenSpec.upto treePlaysSpec)) treePlaysUptoCard

/-- THE SECOND FORM's CARD OF 'turnbucklelaw11.TreeRules'. -/
def treeRulesUptoCard : Claim7 := { stood := { row := treeRulesUptoRow, standIns := [], harness := (true, "cc651d72b2c395781ee2ca1c9b9ccca327c0e5ea5226c7abdb8ade901013fa94"), looks := false }, kinds := [], alts := [], laidByText := true, laidKinds := [.data], laidTests := true, laidLooks := .later }
def TreeRulesUptoCardSaid : Prop := Claim7.holds Tryd.pinned (.plain (OpenSpec.upto treeRulesSpec)) treeRulesUptoCard

/-- THE SECOND FORM's CARD OF 'turnbucklelaw11.TreeStable'. -/
def treeStableUptoCard : Claim7 := { stood := { row := treeStableUptoRow, standIns := [], harness := (true, "cc651d72b2c395781ee2ca1c9b9ccca327c0e5ea5226c7abdb8ade901013fa94"), looks := false }, kinds := [], alts := [], laidByText := true, laidKinds := [.data], laidTests := true, laidLooks := .later }
def TreeStableUptoCardSaid : Prop := Claim7.holds Tryd.pinned (.plain (OpenSpec.upto treeStableSpec)) treeStableUptoCard

/-- THE SECOND FORM's CARD OF 'turnbucklelaw11.TreeRange'. -/
def treeRangeUptoCard : Claim7 := { stood := { row := treeRangeUptoRow, standIns := [], harness := (true, "cc651d72b2c395781ee2ca1c9b9ccca327c0e5ea5226c7abdb8ade901013fa94"), looks := false }, kinds := [], alts := [], laidByText := true, laidKinds := [.data], laidTests := true, laidLooks := .later }
def TreeRangeUptoCardSaid : Prop := Claim7.holds Tryd.pinned (.plain (OpenSpec.upto treeRangeSpec)) treeRangeUptoCard

/-- THE SECOND FORM's CARD OF 'turnbucklelaw11.TreeFirsts'. -/
def treeFirstsUptoCard : Claim7 := { stood := { row := treeFirstsUptoRow, standIns := [], harness := (true, "cc651d72b2c395781ee2ca1c9b9ccca327c0e5ea5226c7abdb8ade901013fa94"), looks := false }, kinds := [], alts := [], laidByText := true, laidKinds := [.data], laidTests := true, laidLooks := .later }
def TreeFirstsUptoCardSaid : Prop := Claim7.holds Tryd.pinned (.plain (OpenSpec.upto treeFirstsSpec)) treeFirstsUptoCard

/-- THE SECOND FORM's CARD OF 'turnbucklelaw11.TreeDeep'. -/
def treeDeepUptoCard : Claim7 := { stood := { row := treeDeepUptoRow, standIns := [], harness := (true, "cc651d72b2c395781ee2ca1c9b9ccca327c0e5ea5226c7abdb8ade901013fa94"), looks := false }, kinds := [], alts := [], laidByText := true, laidKinds := [.data], laidTests := true, laidLooks := .later }
def TreeDeepUptoCardSaid : Prop := Claim7.holds Tryd.pinned (.plain (OpenSpec.upto treeDeepSpec)) treeDeepUptoCard
end Rows
end Go.Proofs.YtiacclmapicmdaaDoor
