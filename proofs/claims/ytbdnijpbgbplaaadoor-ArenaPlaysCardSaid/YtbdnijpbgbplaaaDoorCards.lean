/-
  DERIVED. GIVEN WITH THE SEED: THE CARDS: each row of YtbdnijpbgbplaaaDoorRows.lean that lists a variable, with what it lists TIED to the program's text (the seventh form; the later family's looks); each row that meets fmt, with fmt's text TOLD by the authors' own Lean function (tested against real Go, not proved from fmt's source: count such statements apart). THE CARD IS WHAT COUNTS. Prove the row's statement (the work); the ties are given (YtbdnijpbgbplaaaDoorTie.lean); close each card by the builder's one call (the guide's Derived/Test/ToyasCard.lean, 'card_holds'). Laid BY PROGRAM, IN A SANDBOX (cutbox-door.mjs). By AI agents, Wed Nov 11 2026. No macro, syntax, notation, axiom, sorry.
-/
import Derived.Test.YtbdnijpbgbplaaaDoorRows
import GoSem.ClaimSeven
namespace Go.Proofs.YtbdnijpbgbplaaaDoor
namespace Rows

/-- THE TIED CARD OF 'turnbucklelaw01.ArenaPlays'. -/
def arenaPlaysCard : Claim7 := { stood := { row := arenaPlaysRow, standIns := [], harness := (true, "8a10a2e6607e8519d8159aa44429f74a241bd3aea768ee44131da04f21fdac3b"), looks := false }, kinds := [], alts := [], laidByText := true, laidKinds := [.data], laidTests := true, laidLooks := .later }
def ArenaPlaysCardSaid : Prop := Claim7.holds Tryd.pinned (.plain (OpenSpec.ofChange arenaPlaysSpec)) arenaPlaysCard

/-- THE TIED CARD OF 'turnbucklelaw01.ArenaBack'. -/
def arenaBackCard : Claim7 := { stood := { row := arenaBackRow, standIns := [], harness := (true, "8a10a2e6607e8519d8159aa44429f74a241bd3aea768ee44131da04f21fdac3b"), looks := false }, kinds := [], alts := [], laidByText := true, laidKinds := [.data], laidTests := true, laidLooks := .later }
def ArenaBackCardSaid : Prop := Claim7.holds Tryd.pinned (.plain (OpenSpec.ofChange arenaBackSpec)) arenaBackCard

/-- THE TIED CARD OF 'turnbucklelaw01.ArenaHalves'. -/
def arenaHalvesCard : Claim7 := { stood := { row := arenaHalvesRow, standIns := [], harness := (true, "8a10a2e6607e8519d8159aa44429f74a241bd3aea768ee44131da04f21fdac3b"), looks := false }, kinds := [], alts := [], laidByText := true, laidKinds := [.data], laidTests := true, laidLooks := .later }
def ArenaHalvesCardSaid : Prop := Claim7.holds Tryd.pinned (.plain (OpenSpec.ofChange arenaHalvesSpec)) arenaHalvesCard

/-- THE TIED CARD OF 'turnbucklelaw01.ArenaNobody'. -/
def arenaNobodyCard : Claim7 := { stood := { row := arenaNobodyRow, standIns := [], harness := (true, "8a10a2e6607e8519d8159aa44429f74a241bd3aea768ee44131da04f21fdac3b"), looks := false }, kinds := [], alts := [], laidByText := true, laidKinds := [.data], laidTests := true, laidLooks := .later }
def ArenaNobodyCardSaid : Prop := Claim7.holds Tryd.pinned (.plain (OpenSpec.ofChange arenaNobodySpec)) arenaNobodyCard

/-- THE TIED CARD OF 'turnbucklelaw01.ArenaApart'. -/
def arenaApartCard : Claim7 := { stood := { row := arenaApartRow, standIns := [], harness := (true, "8a10a2e6607e8519d8159aa44429f74a241bd3aea768ee44131da04f21fdac3b"), looks := false }, kinds := [], alts := [], laidByText := true, laidKinds := [.data], laidTests := true, laidLooks := .later }
def ArenaApartCardSaid : Prop := Claim7.holds Tryd.pinned (.plain (OpenSpec.ofChange arenaApartSpec)) arenaApartCard

/-- THE TIED CARD OF 'turnbucklelaw01.ArenaFills'. -/
def arenaFillsCard : Claim7 := { stood := { row := arenaFillsRow, standIns := [], harness := (true, "8a10a2e6607e8519d8159aa44429f74a241bd3aea768ee44131da04f21fdac3b"), looks := false }, kinds := [], alts := [], laidByText := true, laidKinds := [.data], laidTests := true, laidLooks := .later }
def ArenaFillsCardSaid : Prop := Claim7.holds Tryd.pinned (.plain (OpenSpec.ofChange arenaFillsSpec)) arenaFillsCard

/-- THE SECOND FORM's CARD OF 'turnbucklelaw01.ArenaPlays'. -/
def arenaPlaysUptoCard : Claim7 := { stood := { row := arenaPlaysUptoRow, standIns := [], harness := (true, "8a10a2e6607e8519d8159aa44429f74a241bd3aea768ee44131da04f21fdac3b"), looks := false }, kinds := [], alts := [], laidByText := true, laidKinds := [.data], laidTests := true, laidLooks := .later }
def ArenaPlaysUptoCardSaid : Prop := Claim7.holds Tryd.pinned (.plain (OpenSpec.upto arenaPlaysSpec)) arenaPlaysUptoCard

/-- THE SECOND FORM's CARD OF 'turnbucklelaw01.ArenaBack'. -/
def arenaBackUptoCard : Claim7 := { stood := { row := arenaBackUptoRow, standIns := [], harness := (true, "8a10a2e6607e8519d8159aa44429f74a241bd3aea768ee44131da04f21fdac3b"), looks := false }, kinds := [], alts := [], laidByText := true, laidKinds := [.data], laidTests := true, laidLooks := .later }
def ArenaBackUptoCardSaid : Prop := Claim7.holds Tryd.pinned (.plain (OpenSpec.upto arenaBackSpec)) arenaBackUptoCard

/-- THE SECOND FORM's CARD OF 'turnbucklelaw01.ArenaHalves'. -/
def arenaHalvesUptoCard : Claim7 := { stood := { row := arenaHalvesUptoRow, standIns := [], harness := (true, "8a10a2e6607e8519d8159aa44429f74a241bd3aea768ee44131da04f21fdac3b"), looks := false }, kinds := [], alts := [], laidByText := true, laidKinds := [.data], laidTests := true, laidLooks := .later }
def ArenaHalvesUptoCardSaid : Prop := Claim7.holds Tryd.pinned (.plain (OpenSpec.upto arenaHalvesSpec)) arenaHalvesUptoCard

/-- THE SECOND FORM's CARD OF 'turnbucklelaw01.ArenaNobody'. -/
def arenaNobodyUptoCard : Claim7 := { stood := { row := arenaNobodyUptoRow, standIns := [], harness := (true, "8a10a2e6607e8519d8159aa44429f74a241bd3aea768ee44131da04f21fdac3b"), looks := false }, kinds := [], alts := [], laidByText := true, laidKinds := [.data], laidTests := true, laidLooks := .later }
def ArenaNobodyUptoCardSaid : Prop := Claim7.holds Tryd.pinned (.plain (OpenSpec.upto arenaNobodySpec)) arenaNobodyUptoCard

/-- THE SECOND FORM's CARD OF 'turnbucklelaw01.ArenaApart'. -/
def arenaApartUptoCard : Claim7 := { stood := { row := arenaApartUptoRow, standIns := [], harness := (true, "8a10a2e6607e8519d8159aa44429f74a241bd3aea768ee44131da04f21fdac3b"), looks := false }, kinds := [], alts := [], laidByText := true, laidKinds := [.data], laidTests := true, laidLooks := .later }
def ArenaApartUptoCardSaid : Prop := Claim7.holds Tryd.pinned (.plain (OpenSpec.upto arenaApartSpec)) arenaApartUptoCard

/-- THE SECOND FORM's CARD OF 'turnbucklelaw01.ArenaFills'. -/
def arenaFillsUptoCard : Claim7 := { stood := { row := arenaFillsUptoRow, standIns := [], harness := (true, "8a10a2e6607e8519d8159aa44429f74a241bd3aea768ee44131da04f21fdac3b"), looks := false }, kinds := [], alts := [], laidByText := true, laidKinds := [.data], laidTests := true, laidLooks := .later }
def ArenaFillsUptoCardSaid : Prop := Claim7.holds Tryd.pinned (.plain (OpenSpec.upto arenaFillsSpec)) arenaFillsUptoCard
end Rows
end Go.Proofs.YtbdnijpbgbplaaaDoor
