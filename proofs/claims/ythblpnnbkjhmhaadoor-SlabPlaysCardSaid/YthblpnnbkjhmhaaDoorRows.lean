/-
  NARROWER THAN 'FOR EVERY INPUT', by the rows' own cells (each row's printed sentence says how): SlabPlays: laid · SlabApart: laid · SlabEmpty: laid · SlabNobody: laid · SlabClasses: laid · SlabLast: laid.
  DERIVED. THE GIVEN ROWS OF THIS SEAT. 6 by the template 'for every input the law returns true; each argument reads behind the call as it read before'; 0 by the template 'total and deterministic' (their statements: YthblpnnbkjhmhaaDoorTotals.lean).
  GIVEN WITH THE SEED: the statements are not yours to turn. If you find one false, say at which input.
  Laid BY PROGRAM, IN A SANDBOX (cutbox-rows.mjs): the forced cells as the released guide's own fill.sh prints them over the translation 5415e4ef52eba31b… (all of the seat's roots in one cut). By AI agents, Wed Nov 11 2026. No macro, syntax, notation, axiom, sorry.
-/
import Derived.Test.YthblpnnbkjhmhaaDoorChecked
import GoSem.Claim
import GoSem.ClaimJoined
import GoSem.ClaimMapViews
import Derived.JoinedTies
import Derived.KernelRfl
namespace Go.Proofs.YthblpnnbkjhmhaaDoor
/- THE CELL 'sum', in the pinned program and in every row, IS THE sha256 OF THE DUMP (.gsa) THAT YthblpnnbkjhmhaaDoorProg.lean LOADS. Nothing in Lean hashes anything: it is a label: what it is worth is what the hold of that sum in a sandbox is worth. -/
noncomputable def Tryd.pinned : Pinned := { name := "ythblpnnbkjhmhaadoor", sum := "5415e4ef52eba31b575899ecfd85c840be9f3e045a2897f2669463ea3932ba5a", checked := Tryd.checked }
namespace Rows
def none {H : Type} : Left H := { results := [], args := [] }

/- WHAT THE LISTED PACKAGE-LEVEL VARIABLES READ AS WHEN THE CALL BEGINS. Each datum BY PROGRAM (the guide's laid-datum.mjs) off the statement by which the dump's own 'gosem.cut.vars' lays the variable. In a bare row this is a premise. The card (YthblpnnbkjhmhaaDoorCards.lean) ties it to the program's text. -/
def laid_turnbuckle_arena_widths {H : Type} : DataW H := .agg [.lit (.int .i64 1), .lit (.int .i64 2), .lit (.int .i64 4), .lit (.int .i64 8)]
def laid_turnbuckle_slab_classes {H : Type} : DataW H := .agg [.lit (.int .i64 16), .lit (.int .i64 32), .lit (.int .i64 64), .lit (.int .i64 128), .lit (.int .i64 256)]

/-- 'turnbucklelaw03.SlabPlays': WHATEVER THE INPUT: true; the input reads as it did. -/
def slabPlaysSpec : ChangeSpec := { name := "slabPlays", fn := fun _ => fun
  | [d1, d2, d3] => { results := [.lit (.bool true)], args := [d1, d2, d3] }
  | _ => none }
def slabPlaysRow : OpenClaim := { program := "ythblpnnbkjhmhaadoor", sum := "5415e4ef52eba31b575899ecfd85c840be9f3e045a2897f2669463ea3932ba5a", func := "turnbuckle/turnbucklelaw03.SlabPlays", spec := "slabPlays", unfollowed := true, recurses := true, named := ["turnbuckle/slab.classes", "turnbuckle/arena.widths"], apart := false, laid := [("turnbuckle/arena.widths", laid_turnbuckle_arena_widths), ("turnbuckle/slab.classes", laid_turnbuckle_slab_classes)] }
def SlabPlaysSaid : Prop := slabPlaysRow.holds Tryd.pinned (OpenSpec.ofChange slabPlaysSpec)

/-- ITS FALSE NEIGHBOUR: 'it returns false'. Refute it at one input. -/
def slabPlaysWrong : ChangeSpec := { name := "slabPlays", fn := fun _ => fun
  | [d1, d2, d3] => { results := [.lit (.bool false)], args := [d1, d2, d3] }
  | _ => none }
def SlabPlaysWrongFalsely : Prop := slabPlaysRow.holds Tryd.pinned (OpenSpec.ofChange slabPlaysWrong)

/-- 'turnbucklelaw03.SlabApart': WHATEVER THE INPUT: true; the input reads as it did. -/
def slabApartSpec : ChangeSpec := { name := "slabApart", fn := fun _ => fun
  | [d1, d2] => { results := [.lit (.bool true)], args := [d1, d2] }
  | _ => none }
def slabApartRow : OpenClaim := { program := "ythblpnnbkjhmhaadoor", sum := "5415e4ef52eba31b575899ecfd85c840be9f3e045a2897f2669463ea3932ba5a", func := "turnbuckle/turnbucklelaw03.SlabApart", spec := "slabApart", unfollowed := true, recurses := true, named := ["turnbuckle/slab.classes", "turnbuckle/arena.widths"], apart := false, laid := [("turnbuckle/arena.widths", laid_turnbuckle_arena_widths), ("turnbuckle/slab.classes", laid_turnbuckle_slab_classes)] }
def SlabApartSaid : Prop := slabApartRow.holds Tryd.pinned (OpenSpec.ofChange slabApartSpec)

/-- ITS FALSE NEIGHBOUR: 'it returns false'. Refute it at one input. -/
def slabApartWrong : ChangeSpec := { name := "slabApart", fn := fun _ => fun
  | [d1, d2] => { results := [.lit (.bool false)], args := [d1, d2] }
  | _ => none }
def SlabApartWrongFalsely : Prop := slabApartRow.holds Tryd.pinned (OpenSpec.ofChange slabApartWrong)

/-- 'turnbucklelaw03.SlabEmpty': WHATEVER THE INPUT: true; the input reads as it did. -/
def slabEmptySpec : ChangeSpec := { name := "slabEmpty", fn := fun _ => fun
  | [d1, d2, d3] => { results := [.lit (.bool true)], args := [d1, d2, d3] }
  | _ => none }
def slabEmptyRow : OpenClaim := { program := "ythblpnnbkjhmhaadoor", sum := "5415e4ef52eba31b575899ecfd85c840be9f3e045a2897f2669463ea3932ba5a", func := "turnbuckle/turnbucklelaw03.SlabEmpty", spec := "slabEmpty", unfollowed := true, recurses := true, named := ["turnbuckle/slab.classes", "turnbuckle/arena.widths"], apart := false, laid := [("turnbuckle/arena.widths", laid_turnbuckle_arena_widths), ("turnbuckle/slab.classes", laid_turnbuckle_slab_classes)] }
def SlabEmptySaid : Prop := slabEmptyRow.holds Tryd.pinned (OpenSpec.ofChange slabEmptySpec)

/-- ITS FALSE NEIGHBOUR: 'it returns false'. Refute it at one input. -/
def slabEmptyWrong : ChangeSpec := { name := "slabEmpty", fn := fun _ => fun
  | [d1, d2, d3] => { results := [.lit (.bool false)], args := [d1, d2, d3] }
  | _ => none }
def SlabEmptyWrongFalsely : Prop := slabEmptyRow.holds Tryd.pinned (OpenSpec.ofChange slabEmptyWrong)

/-- 'turnbucklelaw03.SlabNobody': WHATEVER THE INPUT: true; the input reads as it did. -/
def slabNobodySpec : ChangeSpec := { name := "slabNobody", fn := fun _ => fun
  | [d1, d2] => { results := [.lit (.bool true)], args := [d1, d2] }
  | _ => none }
def slabNobodyRow : OpenClaim := { program := "ythblpnnbkjhmhaadoor", sum := "5415e4ef52eba31b575899ecfd85c840be9f3e045a2897f2669463ea3932ba5a", func := "turnbuckle/turnbucklelaw03.SlabNobody", spec := "slabNobody", unfollowed := true, recurses := true, named := ["turnbuckle/slab.classes", "turnbuckle/arena.widths"], apart := false, laid := [("turnbuckle/arena.widths", laid_turnbuckle_arena_widths), ("turnbuckle/slab.classes", laid_turnbuckle_slab_classes)] }
def SlabNobodySaid : Prop := slabNobodyRow.holds Tryd.pinned (OpenSpec.ofChange slabNobodySpec)

/-- ITS FALSE NEIGHBOUR: 'it returns false'. Refute it at one input. -/
def slabNobodyWrong : ChangeSpec := { name := "slabNobody", fn := fun _ => fun
  | [d1, d2] => { results := [.lit (.bool false)], args := [d1, d2] }
  | _ => none }
def SlabNobodyWrongFalsely : Prop := slabNobodyRow.holds Tryd.pinned (OpenSpec.ofChange slabNobodyWrong)

/-- 'turnbucklelaw03.SlabClasses': WHATEVER THE INPUT: true; the input reads as it did. -/
def slabClassesSpec : ChangeSpec := { name := "slabClasses", fn := fun _ => fun
  | [d] => { results := [.lit (.bool true)], args := [d] }
  | _ => none }
def slabClassesRow : OpenClaim := { program := "ythblpnnbkjhmhaadoor", sum := "5415e4ef52eba31b575899ecfd85c840be9f3e045a2897f2669463ea3932ba5a", func := "turnbuckle/turnbucklelaw03.SlabClasses", spec := "slabClasses", unfollowed := true, recurses := true, named := ["turnbuckle/slab.classes", "turnbuckle/arena.widths"], apart := false, laid := [("turnbuckle/arena.widths", laid_turnbuckle_arena_widths), ("turnbuckle/slab.classes", laid_turnbuckle_slab_classes)] }
def SlabClassesSaid : Prop := slabClassesRow.holds Tryd.pinned (OpenSpec.ofChange slabClassesSpec)

/-- ITS FALSE NEIGHBOUR: 'it returns false'. Refute it at one input. -/
def slabClassesWrong : ChangeSpec := { name := "slabClasses", fn := fun _ => fun
  | [d] => { results := [.lit (.bool false)], args := [d] }
  | _ => none }
def SlabClassesWrongFalsely : Prop := slabClassesRow.holds Tryd.pinned (OpenSpec.ofChange slabClassesWrong)

/-- 'turnbucklelaw03.SlabLast': WHATEVER THE INPUT: true; the input reads as it did. -/
def slabLastSpec : ChangeSpec := { name := "slabLast", fn := fun _ => fun
  | [d1, d2, d3] => { results := [.lit (.bool true)], args := [d1, d2, d3] }
  | _ => none }
def slabLastRow : OpenClaim := { program := "ythblpnnbkjhmhaadoor", sum := "5415e4ef52eba31b575899ecfd85c840be9f3e045a2897f2669463ea3932ba5a", func := "turnbuckle/turnbucklelaw03.SlabLast", spec := "slabLast", unfollowed := true, recurses := true, named := ["turnbuckle/slab.classes", "turnbuckle/arena.widths"], apart := false, laid := [("turnbuckle/arena.widths", laid_turnbuckle_arena_widths), ("turnbuckle/slab.classes", laid_turnbuckle_slab_classes)] }
def SlabLastSaid : Prop := slabLastRow.holds Tryd.pinned (OpenSpec.ofChange slabLastSpec)

/-- ITS FALSE NEIGHBOUR: 'it returns false'. Refute it at one input. -/
def slabLastWrong : ChangeSpec := { name := "slabLast", fn := fun _ => fun
  | [d1, d2, d3] => { results := [.lit (.bool false)], args := [d1, d2, d3] }
  | _ => none }
def SlabLastWrongFalsely : Prop := slabLastRow.holds Tryd.pinned (OpenSpec.ofChange slabLastWrong)

/- THE SECOND FORM. 'bulk': how many values and letters a reading holds, each counted each time it is reached (what is shared counts as often as it is met; a slice's spare places count too). A statement '..UptoSaid' is the law's where the arguments, and the package variables that the reading takes, are together of bulk at most 1048576: NARROWER than '..Said'. Prove '..Said' where nothing that the law and all that it calls make is longer than what came in: it says more and counts as full. Else prove '..UptoSaid'. A law counts once. -/
mutual
def uptoBulk {H : Type} : DataW H → Nat
  | .lit (.string bytes) => bytes.length + 1
  | .lit _ => 1
  | .nil => 1
  | .ptr d => uptoBulk d + 1
  | .slice elems spare => uptoBulkAll elems + uptoBulkAll spare + 1
  | .agg parts => uptoBulkAll parts + 1
  | .iface _ d => uptoBulk d + 1
  | .map entries => uptoBulkEntries entries + 1
  | .held _ => 1
def uptoBulkAll {H : Type} : List (DataW H) → Nat
  | [] => 0
  | d :: r => uptoBulk d + uptoBulkAll r
def uptoBulkEntries {H : Type} : List (Lit × DataW H) → Nat
  | [] => 0
  | x :: r => uptoBulkEntry x + uptoBulkEntries r
def uptoBulkEntry {H : Type} : Lit × DataW H → Nat
  | (.string bytes, d) => bytes.length + uptoBulk d + 1
  | (_, d) => uptoBulk d + 1
 end
def uptoSmall : (H : Type) → List (DataW H) → Bool := fun _ ds => decide (uptoBulkAll ds ≤ 1048576)
def OpenSpec.upto (s : _root_.Go.ChangeSpec) : _root_.Go.OpenSpec := { _root_.Go.OpenSpec.ofChange s with cond := some uptoSmall }

/-- 'turnbucklelaw03.SlabPlays', WHERE WHAT IT READS IS OF BULK AT MOST 1048576: true; the input reads as it did. -/
def slabPlaysUptoRow : OpenClaim := { program := "ythblpnnbkjhmhaadoor", sum := "5415e4ef52eba31b575899ecfd85c840be9f3e045a2897f2669463ea3932ba5a", func := "turnbuckle/turnbucklelaw03.SlabPlays", spec := "slabPlays", unfollowed := true, recurses := true, named := ["turnbuckle/slab.classes", "turnbuckle/arena.widths"], apart := false, laid := [("turnbuckle/arena.widths", laid_turnbuckle_arena_widths), ("turnbuckle/slab.classes", laid_turnbuckle_slab_classes)], narrowed := true }
def SlabPlaysUptoSaid : Prop := slabPlaysUptoRow.holds Tryd.pinned (OpenSpec.upto slabPlaysSpec)

/-- 'turnbucklelaw03.SlabApart', WHERE WHAT IT READS IS OF BULK AT MOST 1048576: true; the input reads as it did. -/
def slabApartUptoRow : OpenClaim := { program := "ythblpnnbkjhmhaadoor", sum := "5415e4ef52eba31b575899ecfd85c840be9f3e045a2897f2669463ea3932ba5a", func := "turnbuckle/turnbucklelaw03.SlabApart", spec := "slabApart", unfollowed := true, recurses := true, named := ["turnbuckle/slab.classes", "turnbuckle/arena.widths"], apart := false, laid := [("turnbuckle/arena.widths", laid_turnbuckle_arena_widths), ("turnbuckle/slab.classes", laid_turnbuckle_slab_classes)], narrowed := true }
def SlabApartUptoSaid : Prop := slabApartUptoRow.holds Tryd.pinned (OpenSpec.upto slabApartSpec)

/-- 'turnbucklelaw03.SlabEmpty', WHERE WHAT IT READS IS OF BULK AT MOST 1048576: true; the input reads as it did. -/
def slabEmptyUptoRow : OpenClaim := { program := "ythblpnnbkjhmhaadoor", sum := "5415e4ef52eba31b575899ecfd85c840be9f3e045a2897f2669463ea3932ba5a", func := "turnbuckle/turnbucklelaw03.SlabEmpty", spec := "slabEmpty", unfollowed := true, recurses := true, named := ["turnbuckle/slab.classes", "turnbuckle/arena.widths"], apart := false, laid := [("turnbuckle/arena.widths", laid_turnbuckle_arena_widths), ("turnbuckle/slab.classes", laid_turnbuckle_slab_classes)], narrowed := true }
def SlabEmptyUptoSaid : Prop := slabEmptyUptoRow.holds Tryd.pinned (OpenSpec.upto slabEmptySpec)

/-- 'turnbucklelaw03.SlabNobody', WHERE WHAT IT READS IS OF BULK AT MOST 1048576: true; the input reads as it did. -/
def slabNobodyUptoRow : OpenClaim := { program := "ythblpnnbkjhmhaadoor", sum := "5415e4ef52eba31b575899ecfd85c840be9f3e045a2897f2669463ea3932ba5a", func := "turnbuckle/turnbucklelaw03.SlabNobody", spec := "slabNobody", unfollowed := true, recurses := true, named := ["turnbuckle/slab.classes", "turnbuckle/arena.widths"], apart := false, laid := [("turnbuckle/arena.widths", laid_turnbuckle_arena_widths), ("turnbuckle/slab.classes", laid_turnbuckle_slab_classes)], narrowed := true }
def SlabNobodyUptoSaid : Prop := slabNobodyUptoRow.holds Tryd.pinned (OpenSpec.upto slabNobodySpec)

/-- 'turnbucklelaw03.SlabClasses', WHERE WHAT IT READS IS OF BULK AT MOST 1048576: true; the input reads as it did. -/
def slabClassesUptoRow : OpenClaim := { program := "ythblpnnbkjhmhaadoor", sum := "5415e4ef52eba31b575899ecfd85c840be9f3e045a2897f2669463ea3932ba5a", func := "turnbuckle/turnbucklelaw03.SlabClasses", spec := "slabClasses", unfollowed := true, recurses := true, named := ["turnbuckle/slab.classes", "turnbuckle/arena.widths"], apart := false, laid := [("turnbuckle/arena.widths", laid_turnbuckle_arena_widths), ("turnbuckle/slab.classes", laid_turnbuckle_slab_classes)], narrowed := true }
def SlabClassesUptoSaid : Prop := slabClassesUptoRow.holds Tryd.pinned (OpenSpec.upto slabClassesSpec)

/-- 'turnbucklelaw03.SlabLast', WHERE WHAT IT READS IS OF BULK AT MOST 1048576: true; the input reads as it did. -/
def slabLastUptoRow : OpenClaim := { program := "ythblpnnbkjhmhaadoor", sum := "5415e4ef52eba31b575899ecfd85c840be9f3e045a2897f2669463ea3932ba5a", func := "turnbuckle/turnbucklelaw03.SlabLast", spec := "slabLast", unfollowed := true, recurses := true, named := ["turnbuckle/slab.classes", "turnbuckle/arena.widths"], apart := false, laid := [("turnbuckle/arena.widths", laid_turnbuckle_arena_widths), ("turnbuckle/slab.classes", laid_turnbuckle_slab_classes)], narrowed := true }
def SlabLastUptoSaid : Prop := slabLastUptoRow.holds Tryd.pinned (OpenSpec.upto slabLastSpec)

end Rows
end Go.Proofs.YthblpnnbkjhmhaaDoor
