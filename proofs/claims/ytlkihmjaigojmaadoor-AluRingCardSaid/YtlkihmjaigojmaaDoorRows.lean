/-
  NARROWER THAN 'FOR EVERY INPUT', by the rows' own cells (each row's printed sentence says how): AluDoes: laid · AluHolds: laid · AluBack: laid · AluShifts: laid · AluOpposite: laid · AluBits: laid · AluRing: laid.
  DERIVED. THE GIVEN ROWS OF THIS SEAT. 7 by the template 'for every input the law returns true; each argument reads behind the call as it read before'; 0 by the template 'total and deterministic' (their statements: YtlkihmjaigojmaaDoorTotals.lean).
  GIVEN WITH THE SEED: the statements are not yours to turn. If you find one false, say at which input.
  Laid BY PROGRAM, IN A SANDBOX (cutbox-rows.mjs): the forced cells as the released guide's own fill.sh prints them over the translation 58f4887a2cc5fd32… (all of the seat's roots in one cut). By AI agents, Wed Nov 11 2026. No macro, syntax, notation, axiom, sorry.
-/
import Derived.Test.YtlkihmjaigojmaaDoorChecked
import GoSem.Claim
import GoSem.ClaimJoined
import GoSem.ClaimMapViews
import Derived.JoinedTies
import Derived.KernelRfl
namespace Go.Proofs.YtlkihmjaigojmaaDoor
/- THE CELL 'sum', in the pinned program and in every row, IS THE sha256 OF THE DUMP (.gsa) THAT YtlkihmjaigojmaaDoorProg.lean LOADS. Nothing in Lean hashes anything: it is a label: what it is worth is what the hold of that sum in a sandbox is worth. -/
noncomputable def Tryd.pinned : Pinned := { name := "ytlkihmjaigojmaadoor", sum := "58f4887a2cc5fd3233c8985659b8c3093c3dc160ee91fd790672d7d0cb4843bb", checked := Tryd.checked }
namespace Rows
def none {H : Type} : Left H := { results := [], args := [] }

/- WHAT THE LISTED PACKAGE-LEVEL VARIABLES READ AS WHEN THE CALL BEGINS. Each datum BY PROGRAM (the guide's laid-datum.mjs) off the statement by which the dump's own 'gosem.cut.vars' lays the variable. In a bare row this is a premise. The card (YtlkihmjaigojmaaDoorCards.lean) ties it to the program's text. -/
def laid_turnbuckle_alu_nots {H : Type} : DataW H := .agg [.lit (.int .i64 0), .lit (.int .i64 2), .lit (.int .i64 1), .lit (.int .i64 6), .lit (.int .i64 5), .lit (.int .i64 4), .lit (.int .i64 3), .lit (.int .i64 8), .lit (.int .i64 7)]

/-- 'turnbucklelaw07.AluDoes': WHATEVER THE INPUT: true; the input reads as it did. -/
def aluDoesSpec : ChangeSpec := { name := "aluDoes", fn := fun _ => fun
  | [d1, d2, d3] => { results := [.lit (.bool true)], args := [d1, d2, d3] }
  | _ => none }
def aluDoesRow : OpenClaim := { program := "ytlkihmjaigojmaadoor", sum := "58f4887a2cc5fd3233c8985659b8c3093c3dc160ee91fd790672d7d0cb4843bb", func := "turnbuckle/turnbucklelaw07.AluDoes", spec := "aluDoes", named := ["turnbuckle/alu.nots"], apart := false, laid := [("turnbuckle/alu.nots", laid_turnbuckle_alu_nots)] }
def AluDoesSaid : Prop := aluDoesRow.holds Tryd.pinned (OpenSpec.ofChange aluDoesSpec)

/-- ITS FALSE NEIGHBOUR: 'it returns false'. Refute it at one input. -/
def aluDoesWrong : ChangeSpec := { name := "aluDoes", fn := fun _ => fun
  | [d1, d2, d3] => { results := [.lit (.bool false)], args := [d1, d2, d3] }
  | _ => none }
def AluDoesWrongFalsely : Prop := aluDoesRow.holds Tryd.pinned (OpenSpec.ofChange aluDoesWrong)

/-- 'turnbucklelaw07.AluHolds': WHATEVER THE INPUT: true; the input reads as it did. -/
def aluHoldsSpec : ChangeSpec := { name := "aluHolds", fn := fun _ => fun
  | [d1, d2, d3] => { results := [.lit (.bool true)], args := [d1, d2, d3] }
  | _ => none }
def aluHoldsRow : OpenClaim := { program := "ytlkihmjaigojmaadoor", sum := "58f4887a2cc5fd3233c8985659b8c3093c3dc160ee91fd790672d7d0cb4843bb", func := "turnbuckle/turnbucklelaw07.AluHolds", spec := "aluHolds", named := ["turnbuckle/alu.nots"], apart := false, laid := [("turnbuckle/alu.nots", laid_turnbuckle_alu_nots)] }
def AluHoldsSaid : Prop := aluHoldsRow.holds Tryd.pinned (OpenSpec.ofChange aluHoldsSpec)

/-- ITS FALSE NEIGHBOUR: 'it returns false'. Refute it at one input. -/
def aluHoldsWrong : ChangeSpec := { name := "aluHolds", fn := fun _ => fun
  | [d1, d2, d3] => { results := [.lit (.bool false)], args := [d1, d2, d3] }
  | _ => none }
def AluHoldsWrongFalsely : Prop := aluHoldsRow.holds Tryd.pinned (OpenSpec.ofChange aluHoldsWrong)

/-- 'turnbucklelaw07.AluBack': WHATEVER THE INPUT: true; the input reads as it did. -/
def aluBackSpec : ChangeSpec := { name := "aluBack", fn := fun _ => fun
  | [d1, d2] => { results := [.lit (.bool true)], args := [d1, d2] }
  | _ => none }
def aluBackRow : OpenClaim := { program := "ytlkihmjaigojmaadoor", sum := "58f4887a2cc5fd3233c8985659b8c3093c3dc160ee91fd790672d7d0cb4843bb", func := "turnbuckle/turnbucklelaw07.AluBack", spec := "aluBack", named := ["turnbuckle/alu.nots"], apart := false, laid := [("turnbuckle/alu.nots", laid_turnbuckle_alu_nots)] }
def AluBackSaid : Prop := aluBackRow.holds Tryd.pinned (OpenSpec.ofChange aluBackSpec)

/-- ITS FALSE NEIGHBOUR: 'it returns false'. Refute it at one input. -/
def aluBackWrong : ChangeSpec := { name := "aluBack", fn := fun _ => fun
  | [d1, d2] => { results := [.lit (.bool false)], args := [d1, d2] }
  | _ => none }
def AluBackWrongFalsely : Prop := aluBackRow.holds Tryd.pinned (OpenSpec.ofChange aluBackWrong)

/-- 'turnbucklelaw07.AluShifts': WHATEVER THE INPUT: true; the input reads as it did. -/
def aluShiftsSpec : ChangeSpec := { name := "aluShifts", fn := fun _ => fun
  | [d1, d2] => { results := [.lit (.bool true)], args := [d1, d2] }
  | _ => none }
def aluShiftsRow : OpenClaim := { program := "ytlkihmjaigojmaadoor", sum := "58f4887a2cc5fd3233c8985659b8c3093c3dc160ee91fd790672d7d0cb4843bb", func := "turnbuckle/turnbucklelaw07.AluShifts", spec := "aluShifts", named := ["turnbuckle/alu.nots"], apart := false, laid := [("turnbuckle/alu.nots", laid_turnbuckle_alu_nots)] }
def AluShiftsSaid : Prop := aluShiftsRow.holds Tryd.pinned (OpenSpec.ofChange aluShiftsSpec)

/-- ITS FALSE NEIGHBOUR: 'it returns false'. Refute it at one input. -/
def aluShiftsWrong : ChangeSpec := { name := "aluShifts", fn := fun _ => fun
  | [d1, d2] => { results := [.lit (.bool false)], args := [d1, d2] }
  | _ => none }
def AluShiftsWrongFalsely : Prop := aluShiftsRow.holds Tryd.pinned (OpenSpec.ofChange aluShiftsWrong)

/-- 'turnbucklelaw07.AluOpposite': WHATEVER THE INPUT: true; the input reads as it did. -/
def aluOppositeSpec : ChangeSpec := { name := "aluOpposite", fn := fun _ => fun
  | [d1, d2, d3] => { results := [.lit (.bool true)], args := [d1, d2, d3] }
  | _ => none }
def aluOppositeRow : OpenClaim := { program := "ytlkihmjaigojmaadoor", sum := "58f4887a2cc5fd3233c8985659b8c3093c3dc160ee91fd790672d7d0cb4843bb", func := "turnbuckle/turnbucklelaw07.AluOpposite", spec := "aluOpposite", named := ["turnbuckle/alu.nots"], apart := false, laid := [("turnbuckle/alu.nots", laid_turnbuckle_alu_nots)] }
def AluOppositeSaid : Prop := aluOppositeRow.holds Tryd.pinned (OpenSpec.ofChange aluOppositeSpec)

/-- ITS FALSE NEIGHBOUR: 'it returns false'. Refute it at one input. -/
def aluOppositeWrong : ChangeSpec := { name := "aluOpposite", fn := fun _ => fun
  | [d1, d2, d3] => { results := [.lit (.bool false)], args := [d1, d2, d3] }
  | _ => none }
def AluOppositeWrongFalsely : Prop := aluOppositeRow.holds Tryd.pinned (OpenSpec.ofChange aluOppositeWrong)

/-- 'turnbucklelaw07.AluBits': WHATEVER THE INPUT: true; the input reads as it did. -/
def aluBitsSpec : ChangeSpec := { name := "aluBits", fn := fun _ => fun
  | [d1, d2, d3] => { results := [.lit (.bool true)], args := [d1, d2, d3] }
  | _ => none }
def aluBitsRow : OpenClaim := { program := "ytlkihmjaigojmaadoor", sum := "58f4887a2cc5fd3233c8985659b8c3093c3dc160ee91fd790672d7d0cb4843bb", func := "turnbuckle/turnbucklelaw07.AluBits", spec := "aluBits", named := ["turnbuckle/alu.nots"], apart := false, laid := [("turnbuckle/alu.nots", laid_turnbuckle_alu_nots)] }
def AluBitsSaid : Prop := aluBitsRow.holds Tryd.pinned (OpenSpec.ofChange aluBitsSpec)

/-- ITS FALSE NEIGHBOUR: 'it returns false'. Refute it at one input. -/
def aluBitsWrong : ChangeSpec := { name := "aluBits", fn := fun _ => fun
  | [d1, d2, d3] => { results := [.lit (.bool false)], args := [d1, d2, d3] }
  | _ => none }
def AluBitsWrongFalsely : Prop := aluBitsRow.holds Tryd.pinned (OpenSpec.ofChange aluBitsWrong)

/-- 'turnbucklelaw07.AluRing': WHATEVER THE INPUT: true; the input reads as it did. -/
def aluRingSpec : ChangeSpec := { name := "aluRing", fn := fun _ => fun
  | [d1, d2, d3] => { results := [.lit (.bool true)], args := [d1, d2, d3] }
  | _ => none }
def aluRingRow : OpenClaim := { program := "ytlkihmjaigojmaadoor", sum := "58f4887a2cc5fd3233c8985659b8c3093c3dc160ee91fd790672d7d0cb4843bb", func := "turnbuckle/turnbucklelaw07.AluRing", spec := "aluRing", named := ["turnbuckle/alu.nots"], apart := false, laid := [("turnbuckle/alu.nots", laid_turnbuckle_alu_nots)] }
def AluRingSaid : Prop := aluRingRow.holds Tryd.pinned (OpenSpec.ofChange aluRingSpec)

/-- ITS FALSE NEIGHBOUR: 'it returns false'. Refute it at one input. -/
def aluRingWrong : ChangeSpec := { name := "aluRing", fn := fun _ => fun
  | [d1, d2, d3] => { results := [.lit (.bool false)], args := [d1, d2, d3] }
  | _ => none }
def AluRingWrongFalsely : Prop := aluRingRow.holds Tryd.pinned (OpenSpec.ofChange aluRingWrong)

/- THE SECOND FORM. 'bulk': how many values and letters a reading holds, each counted each time it is reached (what is shared counts as often as it is met; a slice's spare places count too). A statement '..UptoSaid' is the law's where the arguments, and the package variables that the reading takes, are together of bulk at most 1048576: NARROWER than '..Said'. Prove '..Said' where nothing that the law and all that it calls make is longer than what came in: it says more and counts as full. Else prove '..UptoSaid'. A law counts once. -/
mutual
def uptoBulk {H : Type} : DataW H → Nat
  | .lit (.string bytes) => bytes.length + 1
  | .lit _ => 1
  | .nil => 1
  | .ptr d => uptoBulk d + 1
  | .slice elems spare => uptoBulkAll elems + uptoBulkAll spare + 1
  | .agg parts => uptoBulkAll parts + 1
  | .iface _ d => uptoBulk d + 1
  | .map entries => uptoBulkEntries entries + 1
  | .held _ => 1
def uptoBulkAll {H : Type} : List (DataW H) → Nat
  | [] => 0
  | d :: r => uptoBulk d + uptoBulkAll r
def uptoBulkEntries {H : Type} : List (Lit × DataW H) → Nat
  | [] => 0
  | x :: r => uptoBulkEntry x + uptoBulkEntries r
def uptoBulkEntry {H : Type} : Lit × DataW H → Nat
  | (.string bytes, d) => bytes.length + uptoBulk d + 1
  | (_, d) => uptoBulk d + 1
 end
def uptoSmall : (H : Type) → List (DataW H) → Bool := fun _ ds => decide (uptoBulkAll ds ≤ 1048576)
def OpenSpec.upto (s : _root_.Go.ChangeSpec) : _root_.Go.OpenSpec := { _root_.Go.OpenSpec.ofChange s with cond := some uptoSmall }

/-- 'turnbucklelaw07.AluDoes', WHERE WHAT IT READS IS OF BULK AT MOST 1048576: true; the input reads as it did. -/
def aluDoesUptoRow : OpenClaim := { program := "ytlkihmjaigojmaadoor", sum := "58f4887a2cc5fd3233c8985659b8c3093c3dc160ee91fd790672d7d0cb4843bb", func := "turnbuckle/turnbucklelaw07.AluDoes", spec := "aluDoes", named := ["turnbuckle/alu.nots"], apart := false, laid := [("turnbuckle/alu.nots", laid_turnbuckle_alu_nots)], narrowed := true }
def AluDoesUptoSaid : Prop := aluDoesUptoRow.holds Tryd.pinned (OpenSpec.upto aluDoesSpec)

/-- 'turnbucklelaw07.AluHolds', WHERE WHAT IT READS IS OF BULK AT MOST 1048576: true; the input reads as it did. -/
def aluHoldsUptoRow : OpenClaim := { program := "ytlkihmjaigojmaadoor", sum := "58f4887a2cc5fd3233c8985659b8c3093c3dc160ee91fd790672d7d0cb4843bb", func := "turnbuckle/turnbucklelaw07.AluHolds", spec := "aluHolds", named := ["turnbuckle/alu.nots"], apart := false, laid := [("turnbuckle/alu.nots", laid_turnbuckle_alu_nots)], narrowed := true }
def AluHoldsUptoSaid : Prop := aluHoldsUptoRow.holds Tryd.pinned (OpenSpec.upto aluHoldsSpec)

/-- 'turnbucklelaw07.AluBack', WHERE WHAT IT READS IS OF BULK AT MOST 1048576: true; the input reads as it did. -/
def aluBackUptoRow : OpenClaim := { program := "ytlkihmjaigojmaadoor", sum := "58f4887a2cc5fd3233c8985659b8c3093c3dc160ee91fd790672d7d0cb4843bb", func := "turnbuckle/turnbucklelaw07.AluBack", spec := "aluBack", named := ["turnbuckle/alu.nots"], apart := false, laid := [("turnbuckle/alu.nots", laid_turnbuckle_alu_nots)], narrowed := true }
def AluBackUptoSaid : Prop := aluBackUptoRow.holds Tryd.pinned (OpenSpec.upto aluBackSpec)

/-- 'turnbucklelaw07.AluShifts', WHERE WHAT IT READS IS OF BULK AT MOST 1048576: true; the input reads as it did. -/
def aluShiftsUptoRow : OpenClaim := { program := "ytlkihmjaigojmaadoor", sum := "58f4887a2cc5fd3233c8985659b8c3093c3dc160ee91fd790672d7d0cb4843bb", func := "turnbuckle/turnbucklelaw07.AluShifts", spec := "aluShifts", named := ["turnbuckle/alu.nots"], apart := false, laid := [("turnbuckle/alu.nots", laid_turnbuckle_alu_nots)], narrowed := true }
def AluShiftsUptoSaid : Prop := aluShiftsUptoRow.holds Tryd.pinned (OpenSpec.upto aluShiftsSpec)

/-- 'turnbucklelaw07.AluOpposite', WHERE WHAT IT READS IS OF BULK AT MOST 1048576: true; the input reads as it did. -/
def aluOppositeUptoRow : OpenClaim := { program := "ytlkihmjaigojmaadoor", sum := "58f4887a2cc5fd3233c8985659b8c3093c3dc160ee91fd790672d7d0cb4843bb", func := "turnbuckle/turnbucklelaw07.AluOpposite", spec := "aluOpposite", named := ["turnbuckle/alu.nots"], apart := false, laid := [("turnbuckle/alu.nots", laid_turnbuckle_alu_nots)], narrowed := true }
def AluOppositeUptoSaid : Prop := aluOppositeUptoRow.holds Tryd.pinned (OpenSpec.upto aluOppositeSpec)

/-- 'turnbucklelaw07.AluBits', WHERE WHAT IT READS IS OF BULK AT MOST 1048576: true; the input reads as it did. -/
def aluBitsUptoRow : OpenClaim := { program := "ytlkihmjaigojmaadoor", sum := "58f4887a2cc5fd3233c8985659b8c3093c3dc160ee91fd790672d7d0cb4843bb", func := "turnbuckle/turnbucklelaw07.AluBits", spec := "aluBits", named := ["turnbuckle/alu.nots"], apart := false, laid := [("turnbuckle/alu.nots", laid_turnbuckle_alu_nots)], narrowed := true }
def AluBitsUptoSaid : Prop := aluBitsUptoRow.holds Tryd.pinned (OpenSpec.upto aluBitsSpec)

/-- 'turnbucklelaw07.AluRing', WHERE WHAT IT READS IS OF BULK AT MOST 1048576: true; the input reads as it did. -/
def aluRingUptoRow : OpenClaim := { program := "ytlkihmjaigojmaadoor", sum := "58f4887a2cc5fd3233c8985659b8c3093c3dc160ee91fd790672d7d0cb4843bb", func := "turnbuckle/turnbucklelaw07.AluRing", spec := "aluRing", named := ["turnbuckle/alu.nots"], apart := false, laid := [("turnbuckle/alu.nots", laid_turnbuckle_alu_nots)], narrowed := true }
def AluRingUptoSaid : Prop := aluRingUptoRow.holds Tryd.pinned (OpenSpec.upto aluRingSpec)

end Rows
end Go.Proofs.YtlkihmjaigojmaaDoor
