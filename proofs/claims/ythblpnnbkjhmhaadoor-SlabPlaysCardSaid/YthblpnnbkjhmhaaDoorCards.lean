/-
  DERIVED. GIVEN WITH THE SEED: THE CARDS: each row of YthblpnnbkjhmhaaDoorRows.lean that lists a variable, with what it lists TIED to the program's text (the seventh form; the later family's looks); each row that meets fmt, with fmt's text TOLD by the authors' own Lean function (tested against real Go, not proved from fmt's source: count such statements apart). THE CARD IS WHAT COUNTS. Prove the row's statement (the work); the ties are given (YthblpnnbkjhmhaaDoorTie.lean); close each card by the builder's one call (the guide's Derived/Test/ToyasCard.lean, 'card_holds'). Laid BY PROGRAM, IN A SANDBOX (cutbox-door.mjs). By AI agents, Wed Nov 11 2026. No macro, syntax, notation, axiom, sorry.
-/
import Derived.Test.YthblpnnbkjhmhaaDoorRows
import GoSem.ClaimSeven
namespace Go.Proofs.YthblpnnbkjhmhaaDoor
namespace Rows

/-- THE TIED CARD OF 'turnbucklelaw03.SlabPlays'. -/
def slabPlaysCard : Claim7 := { stood := { row := slabPlaysRow, standIns := [], harness := (true, "9d754147e6d39a9778fb5b77d2533bbeefed3818fec2ec20a5938ac3529e9cf5"), looks := false }, kinds := [], alts := [], laidByText := true, laidKinds := [.data, .data], laidTests := true, laidLooks := .later }
def SlabPlaysCardSaid : Prop := Claim7.holds Tryd.pinned (.plain (OpenSpec.ofChange slabPlaysSpec)) slabPlaysCard

/-- THE TIED CARD OF 'turnbucklelaw03.SlabApart'. -/
def slabApartCard : Claim7 := { stood := { row := slabApartRow, standIns := [], harness := (true, "9d754147e6d39a9778fb5b77d2533bbeefed3818fec2ec20a5938ac3529e9cf5"), looks := false }, kinds := [], alts := [], laidByText := true, laidKinds := [.data, .data], laidTests := true, laidLooks := .later }
def SlabApartCardSaid : Prop := Claim7.holds Tryd.pinned (.plain (OpenSpec.ofChange slabApartSpec)) slabApartCard

/-- THE TIED CARD OF 'turnbucklelaw03.SlabEmpty'. -/
def slabEmptyCard : Claim7 := { stood := { row := slabEmptyRow, standIns := [], harness := (true, "9d754147e6d39a9778fb5b77d2533bbeefed3818fec2ec20a5938ac3529e9cf5"), looks := false }, kinds := [], alts := [], laidByText := true, laidKinds := [.data, .data], laidTests := true, laidLooks := .later }
def SlabEmptyCardSaid : Prop := Claim7.holds Tryd.pinned (.plain (OpenSpec.ofChange slabEmptySpec)) slabEmptyCard

/-- THE TIED CARD OF 'turnbucklelaw03.SlabNobody'. -/
def slabNobodyCard : Claim7 := { stood := { row := slabNobodyRow, standIns := [], harness := (true, "9d754147e6d39a9778fb5b77d2533bbeefed3818fec2ec20a5938ac3529e9cf5"), looks := false }, kinds := [], alts := [], laidByText := true, laidKinds := [.data, .data], laidTests := true, laidLooks := .later }
def SlabNobodyCardSaid : Prop := Claim7.holds Tryd.pinned (.plain (OpenSpec.ofChange slabNobodySpec)) slabNobodyCard

/-- THE TIED CARD OF 'turnbucklelaw03.SlabClasses'. -/
def slabClassesCard : Claim7 := { stood := { row := slabClassesRow, standIns := [], harness := (true, "9d754147e6d39a9778fb5b77d2533bbeefed3818fec2ec20a5938ac3529e9cf5"), looks := false }, kinds := [], alts := [], laidByText := true, laidKinds := [.data, .data], laidTests := true, laidLooks := .later }
def SlabClassesCardSaid : Prop := Claim7.holds Tryd.pinned (.plain (OpenSpec.ofChange slabClassesSpec)) slabClassesCard

/-- THE TIED CARD OF 'turnbucklelaw03.SlabLast'. -/
def slabLastCard : Claim7 := { stood := { row := slabLastRow, standIns := [], harness := (true, "9d754147e6d39a9778fb5b77d2533bbeefed3818fec2ec20a5938ac3529e9cf5"), looks := false }, kinds := [], alts := [], laidByText := true, laidKinds := [.data, .data], laidTests := true, laidLooks := .later }
def SlabLastCardSaid : Prop := Claim7.holds Tryd.pinned (.plain (OpenSpec.ofChange slabLastSpec)) slabLastCard

/-- THE SECOND FORM's CARD OF 'turnbucklelaw03.SlabPlays'. -/
def slabPlaysUptoCard : Claim7 := { stood := { row := slabPlaysUptoRow, standIns := [], harness := (true, "9d754147e6d39a9778fb5b77d2533bbeefed3818fec2ec20a5938ac3529e9cf5"), looks := false }, kinds := [], alts := [], laidByText := true, laidKinds := [.data, .data], laidTests := true, laidLooks := .later }
def SlabPlaysUptoCardSaid : Prop := Claim7.holds Tryd.pinned (.plain (OpenSpec.upto slabPlaysSpec)) slabPlaysUptoCard

/-- THE SECOND FORM's CARD OF 'turnbucklelaw03.SlabApart'. -/
def slabApartUptoCard : Claim7 := { stood := { row := slabApartUptoRow, standIns := [], harness := (true, "9d754147e6d39a9778fb5b77d2533bbeefed3818fec2ec20a5938ac3529e9cf5"), looks := false }, kinds := [], alts := [], laidByText := true, laidKinds := [.data, .data], laidTests := true, laidLooks := .later }
def SlabApartUptoCardSaid : Prop := Claim7.holds Tryd.pinned (.plain (OpenSpec.upto slabApartSpec)) slabApartUptoCard

/-- THE SECOND FORM's CARD OF 'turnbucklelaw03.SlabEmpty'. -/
def slabEmptyUptoCard : Claim7 := { stood := { row := slabEmptyUptoRow, standIns := [], harness := (true, "9d754147e6d39a9778fb5b77d2533bbeefed3818fec2ec20a5938ac3529e9cf5"), looks := false }, kinds := [], alts := [], laidByText := true, laidKinds := [.data, .data], laidTests := true, laidLooks := .later }
def SlabEmptyUptoCardSaid : Prop := Claim7.holds Tryd.pinned (.plain (OpenSpec.upto slabEmptySpec)) slabEmptyUptoCard

/-- THE SECOND FORM's CARD OF 'turnbucklelaw03.SlabNobody'. -/
def slabNobodyUptoCard : Claim7 := { stood := { row := slabNobodyUptoRow, standIns := [], harness := (true, "9d754147e6d39a9778fb5b77d2533bbeefed3818fec2ec20a5938ac3529e9cf5"), looks := false }, kinds := [], alts := [], laidByText := true, laidKinds := [.data, .data], laidTests := true, laidLooks := .later }
def SlabNobodyUptoCardSaid : Prop := Claim7.holds Tryd.pinned (.plain (OpenSpec.upto slabNobodySpec)) slabNobodyUptoCard

/-- THE SECOND FORM's CARD OF 'turnbucklelaw03.SlabClasses'. -/
def slabClassesUptoCard : Claim7 := { stood := { row := slabClassesUptoRow, standIns := [], harness := (true, "9d754147e6d39a9778fb5b77d2533bbeefed3818fec2ec20a5938ac3529e9cf5"), looks := false }, kinds := [], alts := [], laidByText := true, laidKinds := [.data, .data], laidTests := true, laidLooks := .later }
def SlabClassesUptoCardSaid : Prop := Claim7.holds Tryd.pinned (.plain (OpenSpec.upto slabClassesSpec)) slabClassesUptoCard

/-- THE SECOND FORM's CARD OF 'turnbucklelaw03.SlabLast'. -/
def slabLastUptoCard : Claim7 := { stood := { row := slabLastUptoRow, standIns := [], harness := (true, "9d754147e6d39a9778fb5b77d2533bbeefed3818fec2ec20a5938ac3529e9cf5"), looks := false }, kinds := [], alts := [], laidByText := true, laidKinds := [.data, .data], laidTests := true, laidLooks := .later }
def SlabLastUptoCardSaid : Prop := Claim7.holds Tryd.pinned (.plain (OpenSpec.upto slabLastSpec)) slabLastUptoCard
end Rows
end Go.Proofs.YthblpnnbkjhmhaaDoor
