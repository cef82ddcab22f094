/-
  NARROWER THAN 'FOR EVERY INPUT', by the rows' own cells (each row's printed sentence says how): BranchRefines: laid · BranchSound: laid · BranchWithin: laid · BranchTight: laid · BranchTurned: laid · BranchTwice: laid.
  DERIVED. THE GIVEN ROWS OF THIS SEAT. 6 by the template 'for every input the law returns true; each argument reads behind the call as it read before'; 0 by the template 'total and deterministic' (their statements: YticgehmpfgdbhaaDoorTotals.lean).
  GIVEN WITH THE SEED: the statements are not yours to turn. If you find one false, say at which input.
  Laid BY PROGRAM, IN A SANDBOX (cutbox-rows.mjs): the forced cells as the released guide's own fill.sh prints them over the translation e6e607dfa96bb334… (all of the seat's roots in one cut). By AI agents, Wed Nov 11 2026. No macro, syntax, notation, axiom, sorry.
-/
import Derived.Test.YticgehmpfgdbhaaDoorChecked
import GoSem.Claim
import GoSem.ClaimJoined
import GoSem.ClaimMapViews
import Derived.JoinedTies
import Derived.KernelRfl
namespace Go.Proofs.YticgehmpfgdbhaaDoor
/- THE CELL 'sum', in the pinned program and in every row, IS THE sha256 OF THE DUMP (.gsa) THAT YticgehmpfgdbhaaDoorProg.lean LOADS. Nothing in Lean hashes anything: it is a label: what it is worth is what the hold of that sum in a sandbox is worth. -/
noncomputable def Tryd.pinned : Pinned := { name := "yticgehmpfgdbhaadoor", sum := "e6e607dfa96bb334407362bf8222984367846f264cf4cd05f9a2a6d0d311662e", checked := Tryd.checked }
namespace Rows
def none {H : Type} : Left H := { results := [], args := [] }

/- WHAT THE LISTED PACKAGE-LEVEL VARIABLES READ AS WHEN THE CALL BEGINS. Each datum BY PROGRAM (the guide's laid-datum.mjs) off the statement by which the dump's own 'gosem.cut.vars' lays the variable. In a bare row this is a premise. The card (YticgehmpfgdbhaaDoorCards.lean) ties it to the program's text. -/
def laid_turnbuckle_alu_nots {H : Type} : DataW H := .agg [.lit (.int .i64 0), .lit (.int .i64 2), .lit (.int .i64 1), .lit (.int .i64 6), .lit (.int .i64 5), .lit (.int .i64 4), .lit (.int .i64 3), .lit (.int .i64 8), .lit (.int .i64 7)]

/-- 'turnbucklelaw09.BranchRefines': WHATEVER THE INPUT: true; the input reads as it did. -/
def branchRefinesSpec : ChangeSpec := { name := "branchRefines", fn := fun _ => fun
  | [d1, d2, d3, d4] => { results := [.lit (.bool true)], args := [d1, d2, d3, d4] }
  | _ => none }
def branchRefinesRow : OpenClaim := { program := "yticgehmpfgdbhaadoor", sum := "e6e607dfa96bb334407362bf8222984367846f264cf4cd05f9a2a6d0d311662e", func := "turnbuckle/turnbucklelaw09.BranchRefines", spec := "branchRefines", named := ["turnbuckle/alu.nots"], apart := false, laid := [("turnbuckle/alu.nots", laid_turnbuckle_alu_nots)] }
def BranchRefinesSaid : Prop := branchRefinesRow.holds Tryd.pinned (OpenSpec.ofChange branchRefinesSpec)

/-- ITS FALSE NEIGHBOUR: 'it returns false'. Refute it at one input. -/
def branchRefinesWrong : ChangeSpec := { name := "branchRefines", fn := fun _ => fun
  | [d1, d2, d3, d4] => { results := [.lit (.bool false)], args := [d1, d2, d3, d4] }
  | _ => none }
def BranchRefinesWrongFalsely : Prop := branchRefinesRow.holds Tryd.pinned (OpenSpec.ofChange branchRefinesWrong)

/-- 'turnbucklelaw09.BranchSound': WHATEVER THE INPUT: true; the input reads as it did. -/
def branchSoundSpec : ChangeSpec := { name := "branchSound", fn := fun _ => fun
  | [d1, d2, d3, d4, d5] => { results := [.lit (.bool true)], args := [d1, d2, d3, d4, d5] }
  | _ => none }
def branchSoundRow : OpenClaim := { program := "yticgehmpfgdbhaadoor", sum := "e6e607dfa96bb334407362bf8222984367846f264cf4cd05f9a2a6d0d311662e", func := "turnbuckle/turnbucklelaw09.BranchSound", spec := "branchSound", named := ["turnbuckle/alu.nots"], apart := false, laid := [("turnbuckle/alu.nots", laid_turnbuckle_alu_nots)] }
def BranchSoundSaid : Prop := branchSoundRow.holds Tryd.pinned (OpenSpec.ofChange branchSoundSpec)

/-- ITS FALSE NEIGHBOUR: 'it returns false'. Refute it at one input. -/
def branchSoundWrong : ChangeSpec := { name := "branchSound", fn := fun _ => fun
  | [d1, d2, d3, d4, d5] => { results := [.lit (.bool false)], args := [d1, d2, d3, d4, d5] }
  | _ => none }
def BranchSoundWrongFalsely : Prop := branchSoundRow.holds Tryd.pinned (OpenSpec.ofChange branchSoundWrong)

/-- 'turnbucklelaw09.BranchWithin': WHATEVER THE INPUT: true; the input reads as it did. -/
def branchWithinSpec : ChangeSpec := { name := "branchWithin", fn := fun _ => fun
  | [d1, d2, d3] => { results := [.lit (.bool true)], args := [d1, d2, d3] }
  | _ => none }
def branchWithinRow : OpenClaim := { program := "yticgehmpfgdbhaadoor", sum := "e6e607dfa96bb334407362bf8222984367846f264cf4cd05f9a2a6d0d311662e", func := "turnbuckle/turnbucklelaw09.BranchWithin", spec := "branchWithin", named := ["turnbuckle/alu.nots"], apart := false, laid := [("turnbuckle/alu.nots", laid_turnbuckle_alu_nots)] }
def BranchWithinSaid : Prop := branchWithinRow.holds Tryd.pinned (OpenSpec.ofChange branchWithinSpec)

/-- ITS FALSE NEIGHBOUR: 'it returns false'. Refute it at one input. -/
def branchWithinWrong : ChangeSpec := { name := "branchWithin", fn := fun _ => fun
  | [d1, d2, d3] => { results := [.lit (.bool false)], args := [d1, d2, d3] }
  | _ => none }
def BranchWithinWrongFalsely : Prop := branchWithinRow.holds Tryd.pinned (OpenSpec.ofChange branchWithinWrong)

/-- 'turnbucklelaw09.BranchTight': WHATEVER THE INPUT: true; the input reads as it did. -/
def branchTightSpec : ChangeSpec := { name := "branchTight", fn := fun _ => fun
  | [d1, d2, d3, d4] => { results := [.lit (.bool true)], args := [d1, d2, d3, d4] }
  | _ => none }
def branchTightRow : OpenClaim := { program := "yticgehmpfgdbhaadoor", sum := "e6e607dfa96bb334407362bf8222984367846f264cf4cd05f9a2a6d0d311662e", func := "turnbuckle/turnbucklelaw09.BranchTight", spec := "branchTight", named := ["turnbuckle/alu.nots"], apart := false, laid := [("turnbuckle/alu.nots", laid_turnbuckle_alu_nots)] }
def BranchTightSaid : Prop := branchTightRow.holds Tryd.pinned (OpenSpec.ofChange branchTightSpec)

/-- ITS FALSE NEIGHBOUR: 'it returns false'. Refute it at one input. -/
def branchTightWrong : ChangeSpec := { name := "branchTight", fn := fun _ => fun
  | [d1, d2, d3, d4] => { results := [.lit (.bool false)], args := [d1, d2, d3, d4] }
  | _ => none }
def BranchTightWrongFalsely : Prop := branchTightRow.holds Tryd.pinned (OpenSpec.ofChange branchTightWrong)

/-- 'turnbucklelaw09.BranchTurned': WHATEVER THE INPUT: true; the input reads as it did. -/
def branchTurnedSpec : ChangeSpec := { name := "branchTurned", fn := fun _ => fun
  | [d1, d2, d3, d4] => { results := [.lit (.bool true)], args := [d1, d2, d3, d4] }
  | _ => none }
def branchTurnedRow : OpenClaim := { program := "yticgehmpfgdbhaadoor", sum := "e6e607dfa96bb334407362bf8222984367846f264cf4cd05f9a2a6d0d311662e", func := "turnbuckle/turnbucklelaw09.BranchTurned", spec := "branchTurned", named := ["turnbuckle/alu.nots"], apart := false, laid := [("turnbuckle/alu.nots", laid_turnbuckle_alu_nots)] }
def BranchTurnedSaid : Prop := branchTurnedRow.holds Tryd.pinned (OpenSpec.ofChange branchTurnedSpec)

/-- ITS FALSE NEIGHBOUR: 'it returns false'. Refute it at one input. -/
def branchTurnedWrong : ChangeSpec := { name := "branchTurned", fn := fun _ => fun
  | [d1, d2, d3, d4] => { results := [.lit (.bool false)], args := [d1, d2, d3, d4] }
  | _ => none }
def BranchTurnedWrongFalsely : Prop := branchTurnedRow.holds Tryd.pinned (OpenSpec.ofChange branchTurnedWrong)

/-- 'turnbucklelaw09.BranchTwice': WHATEVER THE INPUT: true; the input reads as it did. -/
def branchTwiceSpec : ChangeSpec := { name := "branchTwice", fn := fun _ => fun
  | [d1, d2, d3, d4] => { results := [.lit (.bool true)], args := [d1, d2, d3, d4] }
  | _ => none }
def branchTwiceRow : OpenClaim := { program := "yticgehmpfgdbhaadoor", sum := "e6e607dfa96bb334407362bf8222984367846f264cf4cd05f9a2a6d0d311662e", func := "turnbuckle/turnbucklelaw09.BranchTwice", spec := "branchTwice", named := ["turnbuckle/alu.nots"], apart := false, laid := [("turnbuckle/alu.nots", laid_turnbuckle_alu_nots)] }
def BranchTwiceSaid : Prop := branchTwiceRow.holds Tryd.pinned (OpenSpec.ofChange branchTwiceSpec)

/-- ITS FALSE NEIGHBOUR: 'it returns false'. Refute it at one input. -/
def branchTwiceWrong : ChangeSpec := { name := "branchTwice", fn := fun _ => fun
  | [d1, d2, d3, d4] => { results := [.lit (.bool false)], args := [d1, d2, d3, d4] }
  | _ => none }
def BranchTwiceWrongFalsely : Prop := branchTwiceRow.holds Tryd.pinned (OpenSpec.ofChange branchTwiceWrong)

/- THE SECOND FORM. 'bulk': how many values and letters a reading holds, each counted each time it is reached (what is shared counts as often as it is met; a slice's spare places count too). A statement '..UptoSaid' is the law's where the arguments, and the package variables that the reading takes, are together of bulk at most 1048576: NARROWER than '..Said'. Prove '..Said' where nothing that the law and all that it calls make is longer than what came in: it says more and counts as full. Else prove '..UptoSaid'. A law counts once. -/
mutual
def uptoBulk {H : Type} : DataW H → Nat
  | .lit (.string bytes) => bytes.length + 1
  | .lit _ => 1
  | .nil => 1
  | .ptr d => uptoBulk d + 1
  | .slice elems spare => uptoBulkAll elems + uptoBulkAll spare + 1
  | .agg parts => uptoBulkAll parts + 1
  | .iface _ d => uptoBulk d + 1
  | .map entries => uptoBulkEntries entries + 1
  | .held _ => 1
def uptoBulkAll {H : Type} : List (DataW H) → Nat
  | [] => 0
  | d :: r => uptoBulk d + uptoBulkAll r
def uptoBulkEntries {H : Type} : List (Lit × DataW H) → Nat
  | [] => 0
  | x :: r => uptoBulkEntry x + uptoBulkEntries r
def uptoBulkEntry {H : Type} : Lit × DataW H → Nat
  | (.string bytes, d) => bytes.length + uptoBulk d + 1
  | (_, d) => uptoBulk d + 1
 end
def uptoSmall : (H : Type) → List (DataW H) → Bool := fun _ ds => decide (uptoBulkAll ds ≤ 1048576)
def OpenSpec.upto (s : _root_.Go.ChangeSpec) : _root_.Go.OpenSpec := { _root_.Go.OpenSpec.ofChange s with cond := some uptoSmall }

/-- 'turnbucklelaw09.BranchRefines', WHERE WHAT IT READS IS OF BULK AT MOST 1048576: true; the input reads as it did. -/
def branchRefinesUptoRow : OpenClaim := { program := "yticgehmpfgdbhaadoor", sum := "e6e607dfa96bb334407362bf8222984367846f264cf4cd05f9a2a6d0d311662e", func := "turnbuckle/turnbucklelaw09.BranchRefines", spec := "branchRefines", named := ["turnbuckle/alu.nots"], apart := false, laid := [("turnbuckle/alu.nots", laid_turnbuckle_alu_nots)], narrowed := true }
def BranchRefinesUptoSaid : Prop := branchRefinesUptoRow.holds Tryd.pinned (OpenSpec.upto branchRefinesSpec)

/-- 'turnbucklelaw09.BranchSound', WHERE WHAT IT READS IS OF BULK AT MOST 1048576: true; the input reads as it did. -/
def branchSoundUptoRow : OpenClaim := { program := "yticgehmpfgdbhaadoor", sum := "e6e607dfa96bb334407362bf8222984367846f264cf4cd05f9a2a6d0d311662e", func := "turnbuckle/turnbucklelaw09.BranchSound", spec := "branchSound", named := ["turnbuckle/alu.nots"], apart := false, laid := [("turnbuckle/alu.nots", laid_turnbuckle_alu_nots)], narrowed := true }
def BranchSoundUptoSaid : Prop := branchSoundUptoRow.holds Tryd.pinned (OpenSpec.upto branchSoundSpec)

/-- 'turnbucklelaw09.BranchWithin', WHERE WHAT IT READS IS OF BULK AT MOST 1048576: true; the input reads as it did. -/
def branchWithinUptoRow : OpenClaim := { program := "yticgehmpfgdbhaadoor", sum := "e6e607dfa96bb334407362bf8222984367846f264cf4cd05f9a2a6d0d311662e", func := "turnbuckle/turnbucklelaw09.BranchWithin", spec := "branchWithin", named := ["turnbuckle/alu.nots"], apart := false, laid := [("turnbuckle/alu.nots", laid_turnbuckle_alu_nots)], narrowed := true }
def BranchWithinUptoSaid : Prop := branchWithinUptoRow.holds Tryd.pinned (OpenSpec.upto branchWithinSpec)

/-- 'turnbucklelaw09.BranchTight', WHERE WHAT IT READS IS OF BULK AT MOST 1048576: true; the input reads as it did. -/
def branchTightUptoRow : OpenClaim := { program := "yticgehmpfgdbhaadoor", sum := "e6e607dfa96bb334407362bf8222984367846f264cf4cd05f9a2a6d0d311662e", func := "turnbuckle/turnbucklelaw09.BranchTight", spec := "branchTight", named := ["turnbuckle/alu.nots"], apart := false, laid := [("turnbuckle/alu.nots", laid_turnbuckle_alu_nots)], narrowed := true }
def BranchTightUptoSaid : Prop := branchTightUptoRow.holds Tryd.pinned (OpenSpec.upto branchTightSpec)

/-- 'turnbucklelaw09.BranchTurned', WHERE WHAT IT READS IS OF BULK AT MOST 1048576: true; the input reads as it did. -/
def branchTurnedUptoRow : OpenClaim := { program := "yticgehmpfgdbhaadoor", sum := "e6e607dfa96bb334407362bf8222984367846f264cf4cd05f9a2a6d0d311662e", func := "turnbuckle/turnbucklelaw09.BranchTurned", spec := "branchTurned", named := ["turnbuckle/alu.nots"], apart := false, laid := [("turnbuckle/alu.nots", laid_turnbuckle_alu_nots)], narrowed := true }
def BranchTurnedUptoSaid : Prop := branchTurnedUptoRow.holds Tryd.pinned (OpenSpec.upto branchTurnedSpec)

/-- 'turnbucklelaw09.BranchTwice', WHERE WHAT IT READS IS OF BULK AT MOST 1048576: true; the input reads as it did. -/
def branchTwiceUptoRow : OpenClaim := { program := "yticgehmpfgdbhaadoor", sum := "e6e607dfa96bb334407362bf8222984367846f264cf4cd05f9a2a6d0d311662e", func := "turnbuckle/turnbucklelaw09.BranchTwice", spec := "branchTwice", named := ["turnbuckle/alu.nots"], apart := false, laid := [("turnbuckle/alu.nots", laid_turnbuckle_alu_nots)], narrowed := true }
def BranchTwiceUptoSaid : Prop := branchTwiceUptoRow.holds Tryd.pinned (OpenSpec.upto branchTwiceSpec)

end Rows
end Go.Proofs.YticgehmpfgdbhaaDoor
