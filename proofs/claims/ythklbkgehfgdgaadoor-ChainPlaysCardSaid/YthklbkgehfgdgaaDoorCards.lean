/-
  DERIVED. GIVEN WITH THE SEED: THE CARDS: each row of YthklbkgehfgdgaaDoorRows.lean that lists a variable, with what it lists TIED to the program's text (the seventh form; the later family's looks); each row that meets fmt, with fmt's text TOLD by the authors' own Lean function (tested against real Go, not proved from fmt's source: count such statements apart). THE CARD IS WHAT COUNTS. Prove the row's statement (the work); the ties are given (YthklbkgehfgdgaaDoorTie.lean); close each card by the builder's one call (the guide's Derived/Test/ToyasCard.lean, 'card_holds'). Laid BY PROGRAM, IN A SANDBOX (cutbox-door.mjs). By AI agents, Wed Nov 11 2026. No macro, syntax, notation, axiom, sorry.
-/
import Derived.Test.YthklbkgehfgdgaaDoorRows
import GoSem.ClaimSeven
namespace Go.Proofs.YthklbkgehfgdgaaDoor
namespace Rows

/-- THE TIED CARD OF 'turnbucklelaw10.ChainPlays'. -/
def chainPlaysCard : Claim7 := { stood := { row := chainPlaysRow, standIns := [], harness := (true, "81b2825ae278ef0633944116b30155f63d1df033cd2214ca9a7349a9306af110"), looks := false }, kinds := [], alts := [], laidByText := true, laidKinds := [.data], laidTests := true, laidLooks := .later }
def ChainPlaysCardSaid : Prop := Claim7.holds Tryd.pinned (.plain (OpenSpec.ofChange chainPlaysSpec)) chainPlaysCard

/-- THE TIED CARD OF 'turnbucklelaw10.ChainRange'. -/
def chainRangeCard : Claim7 := { stood := { row := chainRangeRow, standIns := [], harness := (true, "81b2825ae278ef0633944116b30155f63d1df033cd2214ca9a7349a9306af110"), looks := false }, kinds := [], alts := [], laidByText := true, laidKinds := [.data], laidTests := true, laidLooks := .later }
def ChainRangeCardSaid : Prop := Claim7.holds Tryd.pinned (.plain (OpenSpec.ofChange chainRangeSpec)) chainRangeCard

/-- THE TIED CARD OF 'turnbucklelaw10.ChainEnds'. -/
def chainEndsCard : Claim7 := { stood := { row := chainEndsRow, standIns := [], harness := (true, "81b2825ae278ef0633944116b30155f63d1df033cd2214ca9a7349a9306af110"), looks := false }, kinds := [], alts := [], laidByText := true, laidKinds := [.data], laidTests := true, laidLooks := .later }
def ChainEndsCardSaid : Prop := Claim7.holds Tryd.pinned (.plain (OpenSpec.ofChange chainEndsSpec)) chainEndsCard

/-- THE TIED CARD OF 'turnbucklelaw10.ChainBothWays'. -/
def chainBothWaysCard : Claim7 := { stood := { row := chainBothWaysRow, standIns := [], harness := (true, "81b2825ae278ef0633944116b30155f63d1df033cd2214ca9a7349a9306af110"), looks := false }, kinds := [], alts := [], laidByText := true, laidKinds := [.data], laidTests := true, laidLooks := .later }
def ChainBothWaysCardSaid : Prop := Claim7.holds Tryd.pinned (.plain (OpenSpec.ofChange chainBothWaysSpec)) chainBothWaysCard

/-- THE TIED CARD OF 'turnbucklelaw10.ChainMoves'. -/
def chainMovesCard : Claim7 := { stood := { row := chainMovesRow, standIns := [], harness := (true, "81b2825ae278ef0633944116b30155f63d1df033cd2214ca9a7349a9306af110"), looks := false }, kinds := [], alts := [], laidByText := true, laidKinds := [.data], laidTests := true, laidLooks := .later }
def ChainMovesCardSaid : Prop := Claim7.holds Tryd.pinned (.plain (OpenSpec.ofChange chainMovesSpec)) chainMovesCard

/-- THE TIED CARD OF 'turnbucklelaw10.ChainOthers'. -/
def chainOthersCard : Claim7 := { stood := { row := chainOthersRow, standIns := [], harness := (true, "81b2825ae278ef0633944116b30155f63d1df033cd2214ca9a7349a9306af110"), looks := false }, kinds := [], alts := [], laidByText := true, laidKinds := [.data], laidTests := true, laidLooks := .later }
def ChainOthersCardSaid : Prop := Claim7.holds Tryd.pinned (.plain (OpenSpec.ofChange chainOthersSpec)) chainOthersCard

/-- THE SECOND FORM's CARD OF 'turnbucklelaw10.ChainPlays'. -/
def chainPlaysUptoCard : Claim7 := { stood := { row := chainPlaysUptoRow, standIns := [], harness := (true, "81b2825ae278ef0633944116b30155f63d1df033cd2214ca9a7349a9306af110"), looks := false }, kinds := [], alts := [], laidByText := true, laidKinds := [.data], laidTests := true, laidLooks := .later }
def ChainPlaysUptoCardSaid : Prop := Claim7.holds Tryd.pinned (.plain (OpenSpec.upto chainPlaysSpec)) chainPlaysUptoCard

/-- THE SECOND FORM's CARD OF 'turnbucklelaw10.ChainRange'. -/
def chainRangeUptoCard : Claim7 := { stood := { row := chainRangeUptoRow, standIns := [], harness := (true, "81b2825ae278ef0633944116b30155f63d1df033cd2214ca9a7349a9306af110"), looks := false }, kinds := [], alts := [], laidByText := true, laidKinds := [.data], laidTests := true, laidLooks := .later }
def ChainRangeUptoCardSaid : Prop := Claim7.holds Tryd.pinned (.plain (OpenSpec.upto chainRangeSpec)) chainRangeUptoCard

/-- THE SECOND FORM's CARD OF 'turnbucklelaw10.ChainEnds'. -/
def chainEndsUptoCard : Claim7 := { stood := { row := chainEndsUptoRow, standIns := [], harness := (true, "81b2825ae278ef0633944116b30155f63d1df033cd2214ca9a7349a9306af110"), looks := false }, kinds := [], alts := [], laidByText := true, laidKinds := [.data], laidTests := true, laidLooks := .later }
def ChainEndsUptoCardSaid : Prop := Claim7.holds Tryd.pinned (.plain (OpenSpec.upto chainEndsSpec)) chainEndsUptoCard

/-- THE SECOND FORM's CARD OF 'turnbucklelaw10.ChainBothWays'. -/
def chainBothWaysUptoCard : Claim7 := { stood := { row := chainBothWaysUptoRow, standIns := [], harness := (true, "81b2825ae278ef0633944116b30155f63d1df033cd2214ca9a7349a9306af110"), looks := false }, kinds := [], alts := [], laidByText := true, laidKinds := [.data], laidTests := true, laidLooks := .later }
def ChainBothWaysUptoCardSaid : Prop := Claim7.holds Tryd.pinned (.plain (OpenSpec.upto chainBothWaysSpec)) chainBothWaysUptoCard

/-- THE SECOND FORM's CARD OF 'turnbucklelaw10.ChainMoves'. -/
def chainMovesUptoCard : Claim7 := { stood := { row := chainMovesUptoRow, standIns := [], harness := (true, "81b2825ae278ef0633944116b30155f63d1df033cd2214ca9a7349a9306af110"), looks := false }, kinds := [], alts := [], laidByText := true, laidKinds := [.data], laidTests := true, laidLooks := .later }
def ChainMovesUptoCardSaid : Prop := Claim7.holds Tryd.pinned (.plain (OpenSpec.upto chainMovesSpec)) chainMovesUptoCard

/-- THE SECOND FORM's CARD OF 'turnbucklelaw10.ChainOthers'. -/
def chainOthersUptoCard : Claim7 := { stood := { row := chainOthersUptoRow, standIns := [], harness := (true, "81b2825ae278ef0633944116b30155f63d1df033cd2214ca9a7349a9306af110"), looks := false }, kinds := [], alts := [], laidByText := true, laidKinds := [.data], laidTests := true, laidLooks := .later }
def ChainOthersUptoCardSaid : Prop := Claim7.holds Tryd.pinned (.plain (OpenSpec.upto chainOthersSpec)) chainOthersUptoCard
end Rows
end Go.Proofs.YthklbkgehfgdgaaDoor
