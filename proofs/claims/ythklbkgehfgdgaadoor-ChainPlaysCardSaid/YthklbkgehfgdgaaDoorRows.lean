/-
  NARROWER THAN 'FOR EVERY INPUT', by the rows' own cells (each row's printed sentence says how): ChainPlays: laid · ChainRange: laid · ChainEnds: laid · ChainBothWays: laid · ChainMoves: laid · ChainOthers: laid.
  DERIVED. THE GIVEN ROWS OF THIS SEAT. 6 by the template 'for every input the law returns true; each argument reads behind the call as it read before'; 0 by the template 'total and deterministic' (their statements: YthklbkgehfgdgaaDoorTotals.lean).
  GIVEN WITH THE SEED: the statements are not yours to turn. If you find one false, say at which input.
  Laid BY PROGRAM, IN A SANDBOX (cutbox-rows.mjs): the forced cells as the released guide's own fill.sh prints them over the translation e8b7084f4f7d24d4… (all of the seat's roots in one cut). By AI agents, Wed Nov 11 2026. No macro, syntax, notation, axiom, sorry.
-/
import Derived.Test.YthklbkgehfgdgaaDoorChecked
import GoSem.Claim
import GoSem.ClaimJoined
import GoSem.ClaimMapViews
import Derived.JoinedTies
import Derived.KernelRfl
namespace Go.Proofs.YthklbkgehfgdgaaDoor
/- THE CELL 'sum', in the pinned program and in every row, IS THE sha256 OF THE DUMP (.gsa) THAT YthklbkgehfgdgaaDoorProg.lean LOADS. Nothing in Lean hashes anything: it is a label: what it is worth is what the hold of that sum in a sandbox is worth. -/
noncomputable def Tryd.pinned : Pinned := { name := "ythklbkgehfgdgaadoor", sum := "e8b7084f4f7d24d44fd05ba80f47e1d5545ff67b46a49a0931e4e442faa63542", checked := Tryd.checked }
namespace Rows
def none {H : Type} : Left H := { results := [], args := [] }

/- WHAT THE LISTED PACKAGE-LEVEL VARIABLES READ AS WHEN THE CALL BEGINS. Each datum BY PROGRAM (the guide's laid-datum.mjs) off the statement by which the dump's own 'gosem.cut.vars' lays the variable. In a bare row this is a premise. The card (YthklbkgehfgdgaaDoorCards.lean) ties it to the program's text. -/
def laid_turnbuckle_arena_widths {H : Type} : DataW H := .agg [.lit (.int .i64 1), .lit (.int .i64 2), .lit (.int .i64 4), .lit (.int .i64 8)]

/-- 'turnbucklelaw10.ChainPlays': WHATEVER THE INPUT: true; the input reads as it did. -/
def chainPlaysSpec : ChangeSpec := { name := "chainPlays", fn := fun _ => fun
  | [d] => { results := [.lit (.bool true)], args := [d] }
  | _ => none }
def chainPlaysRow : OpenClaim := { program := "ythklbkgehfgdgaadoor", sum := "e8b7084f4f7d24d44fd05ba80f47e1d5545ff67b46a49a0931e4e442faa63542", func := "turnbuckle/turnbucklelaw10.ChainPlays", spec := "chainPlays", named := ["turnbuckle/arena.widths"], apart := false, laid := [("turnbuckle/arena.widths", laid_turnbuckle_arena_widths)] }
def ChainPlaysSaid : Prop := chainPlaysRow.holds Tryd.pinned (OpenSpec.ofChange chainPlaysSpec)

/-- ITS FALSE NEIGHBOUR: 'it returns false'. Refute it at one input. -/
def chainPlaysWrong : ChangeSpec := { name := "chainPlays", fn := fun _ => fun
  | [d] => { results := [.lit (.bool false)], args := [d] }
  | _ => none }
def ChainPlaysWrongFalsely : Prop := chainPlaysRow.holds Tryd.pinned (OpenSpec.ofChange chainPlaysWrong)

/-- 'turnbucklelaw10.ChainRange': WHATEVER THE INPUT: true; the input reads as it did. -/
def chainRangeSpec : ChangeSpec := { name := "chainRange", fn := fun _ => fun
  | [d1, d2] => { results := [.lit (.bool true)], args := [d1, d2] }
  | _ => none }
def chainRangeRow : OpenClaim := { program := "ythklbkgehfgdgaadoor", sum := "e8b7084f4f7d24d44fd05ba80f47e1d5545ff67b46a49a0931e4e442faa63542", func := "turnbuckle/turnbucklelaw10.ChainRange", spec := "chainRange", named := ["turnbuckle/arena.widths"], apart := false, laid := [("turnbuckle/arena.widths", laid_turnbuckle_arena_widths)] }
def ChainRangeSaid : Prop := chainRangeRow.holds Tryd.pinned (OpenSpec.ofChange chainRangeSpec)

/-- ITS FALSE NEIGHBOUR: 'it returns false'. Refute it at one input. -/
def chainRangeWrong : ChangeSpec := { name := "chainRange", fn := fun _ => fun
  | [d1, d2] => { results := [.lit (.bool false)], args := [d1, d2] }
  | _ => none }
def ChainRangeWrongFalsely : Prop := chainRangeRow.holds Tryd.pinned (OpenSpec.ofChange chainRangeWrong)

/-- 'turnbucklelaw10.ChainEnds': WHATEVER THE INPUT: true; the input reads as it did. -/
def chainEndsSpec : ChangeSpec := { name := "chainEnds", fn := fun _ => fun
  | [d1, d2, d3] => { results := [.lit (.bool true)], args := [d1, d2, d3] }
  | _ => none }
def chainEndsRow : OpenClaim := { program := "ythklbkgehfgdgaadoor", sum := "e8b7084f4f7d24d44fd05ba80f47e1d5545ff67b46a49a0931e4e442faa63542", func := "turnbuckle/turnbucklelaw10.ChainEnds", spec := "chainEnds", named := ["turnbuckle/arena.widths"], apart := false, laid := [("turnbuckle/arena.widths", laid_turnbuckle_arena_widths)] }
def ChainEndsSaid : Prop := chainEndsRow.holds Tryd.pinned (OpenSpec.ofChange chainEndsSpec)

/-- ITS FALSE NEIGHBOUR: 'it returns false'. Refute it at one input. -/
def chainEndsWrong : ChangeSpec := { name := "chainEnds", fn := fun _ => fun
  | [d1, d2, d3] => { results := [.lit (.bool false)], args := [d1, d2, d3] }
  | _ => none }
def ChainEndsWrongFalsely : Prop := chainEndsRow.holds Tryd.pinned (OpenSpec.ofChange chainEndsWrong)

/-- 'turnbucklelaw10.ChainBothWays': WHATEVER THE INPUT: true; the input reads as it did. -/
def chainBothWaysSpec : ChangeSpec := { name := "chainBothWays", fn := fun _ => fun
  | [d] => { results := [.lit (.bool true)], args := [d] }
  | _ => none }
def chainBothWaysRow : OpenClaim := { program := "ythklbkgehfgdgaadoor", sum := "e8b7084f4f7d24d44fd05ba80f47e1d5545ff67b46a49a0931e4e442faa63542", func := "turnbuckle/turnbucklelaw10.ChainBothWays", spec := "chainBothWays", named := ["turnbuckle/arena.widths"], apart := false, laid := [("turnbuckle/arena.widths", laid_turnbuckle_arena_widths)] }
def ChainBothWaysSaid : Prop := chainBothWaysRow.holds Tryd.pinned (OpenSpec.ofChange chainBothWaysSpec)

/-- ITS FALSE NEIGHBOUR: 'it returns false'. Refute it at one input. -/
def chainBothWaysWrong : ChangeSpec := { name := "chainBothWays", fn := fun _ => fun
  | [d] => { results := [.lit (.bool false)], args := [d] }
  | _ => none }
def ChainBothWaysWrongFalsely : Prop := chainBothWaysRow.holds Tryd.pinned (OpenSpec.ofChange chainBothWaysWrong)

/-- 'turnbucklelaw10.ChainMoves': WHATEVER THE INPUT: true; the input reads as it did. -/
def chainMovesSpec : ChangeSpec := { name := "chainMoves", fn := fun _ => fun
  | [d1, d2, d3] => { results := [.lit (.bool true)], args := [d1, d2, d3] }
  | _ => none }
def chainMovesRow : OpenClaim := { program := "ythklbkgehfgdgaadoor", sum := "e8b7084f4f7d24d44fd05ba80f47e1d5545ff67b46a49a0931e4e442faa63542", func := "turnbuckle/turnbucklelaw10.ChainMoves", spec := "chainMoves", named := ["turnbuckle/arena.widths"], apart := false, laid := [("turnbuckle/arena.widths", laid_turnbuckle_arena_widths)] }
def ChainMovesSaid : Prop := chainMovesRow.holds Tryd.pinned (OpenSpec.ofChange chainMovesSpec)

/-- ITS FALSE NEIGHBOUR: 'it returns false'. Refute it at one input. -/
def chainMovesWrong : ChangeSpec := { name := "chainMoves", fn := fun _ => fun
  | [d1, d2, d3] => { results := [.lit (.bool false)], args := [d1, d2, d3] }
  | _ => none }
def ChainMovesWrongFalsely : Prop := chainMovesRow.holds Tryd.pinned (OpenSpec.ofChange chainMovesWrong)

/-- 'turnbucklelaw10.ChainOthers': WHATEVER THE INPUT: true; the input reads as it did. -/
def chainOthersSpec : ChangeSpec := { name := "chainOthers", fn := fun _ => fun
  | [d1, d2] => { results := [.lit (.bool true)], args := [d1, d2] }
  | _ => none }
def chainOthersRow : OpenClaim := { program := "ythklbkgehfgdgaadoor", sum := "e8b7084f4f7d24d44fd05ba80f47e1d5545ff67b46a49a0931e4e442faa63542", func := "turnbuckle/turnbucklelaw10.ChainOthers", spec := "chainOthers", named := ["turnbuckle/arena.widths"], apart := false, laid := [("turnbuckle/arena.widths", laid_turnbuckle_arena_widths)] }
def ChainOthersSaid : Prop := chainOthersRow.holds Tryd.pinned (OpenSpec.ofChange chainOthersSpec)

/-- ITS FALSE NEIGHBOUR: 'it returns false'. Refute it at one input. -/
def chainOthersWrong : ChangeSpec := { name := "chainOthers", fn := fun _ => fun
  | [d1, d2] => { results := [.lit (.bool false)], args := [d1, d2] }
  | _ => none }
def ChainOthersWrongFalsely : Prop := chainOthersRow.holds Tryd.pinned (OpenSpec.ofChange chainOthersWrong)

/- THE SECOND FORM. 'bulk': how many values and letters a reading holds, each counted each time it is reached (what is shared counts as often as it is met; a slice's spare places count too). A statement '..UptoSaid' is the law's where the arguments, and the package variables that the reading takes, are together of bulk at most 1048576: NARROWER than '..Said'. Prove '..Said' where nothing that the law and all that it calls make is longer than what came in: it says more and counts as full. Else prove '..UptoSaid'. A law counts once. -/
mutual
def uptoBulk {H : Type} : DataW H → Nat
  | .lit (.string bytes) => bytes.length + 1
  | .lit _ => 1
  | .nil => 1
  | .ptr d => uptoBulk d + 1
  | .slice elems spare => uptoBulkAll elems + uptoBulkAll spare + 1
  | .agg parts => uptoBulkAll parts + 1
  | .iface _ d => uptoBulk d + 1
  | .map entries => uptoBulkEntries entries + 1
  | .held _ => 1
def uptoBulkAll {H : Type} : List (DataW H) → Nat
  | [] => 0
  | d :: r => uptoBulk d + uptoBulkAll r
def uptoBulkEntries {H : Type} : List (Lit × DataW H) → Nat
  | [] => 0
  | x :: r => uptoBulkEntry x + uptoBulkEntries r
def uptoBulkEntry {H : Type} : Lit × DataW H → Nat
  | (.string bytes, d) => bytes.length + uptoBulk d + 1
  | (_, d) => uptoBulk d + 1
 end
def uptoSmall : (H : Type) → List (DataW H) → Bool := fun _ ds => decide (uptoBulkAll ds ≤ 1048576)
def OpenSpec.upto (s : _root_.Go.ChangeSpec) : _root_.Go.OpenSpec := { _root_.Go.OpenSpec.ofChange s with cond := some uptoSmall }

/-- 'turnbucklelaw10.ChainPlays', WHERE WHAT IT READS IS OF BULK AT MOST 1048576: true; the input reads as it did. -/
def chainPlaysUptoRow : OpenClaim := { program := "ythklbkgehfgdgaadoor", sum := "e8b7084f4f7d24d44fd05ba80f47e1d5545ff67b46a49a0931e4e442faa63542", func := "turnbuckle/turnbucklelaw10.ChainPlays", spec := "chainPlays", named := ["turnbuckle/arena.widths"], apart := false, laid := [("turnbuckle/arena.widths", laid_turnbuckle_arena_widths)], narrowed := true }
def ChainPlaysUptoSaid : Prop := chainPlaysUptoRow.holds Tryd.pinned (OpenSpec.upto chainPlaysSpec)

/-- 'turnbucklelaw10.ChainRange', WHERE WHAT IT READS IS OF BULK AT MOST 1048576: true; the input reads as it did. -/
def chainRangeUptoRow : OpenClaim := { program := "ythklbkgehfgdgaadoor", sum := "e8b7084f4f7d24d44fd05ba80f47e1d5545ff67b46a49a0931e4e442faa63542", func := "turnbuckle/turnbucklelaw10.ChainRange", spec := "chainRange", named := ["turnbuckle/arena.widths"], apart := false, laid := [("turnbuckle/arena.widths", laid_turnbuckle_arena_widths)], narrowed := true }
def ChainRangeUptoSaid : Prop := chainRangeUptoRow.holds Tryd.pinned (OpenSpec.upto chainRangeSpec)

/-- 'turnbucklelaw10.ChainEnds', WHERE WHAT IT READS IS OF BULK AT MOST 1048576: true; the input reads as it did. -/
def chainEndsUptoRow : OpenClaim := { program := "ythklbkgehfgdgaadoor", sum := "e8b7084f4f7d24d44fd05ba80f47e1d5545ff67b46a49a0931e4e442faa63542", func := "turnbuckle/turnbucklelaw10.ChainEnds", spec := "chainEnds", named := ["turnbuckle/arena.widths"], apart := false, laid := [("turnbuckle/arena.widths", laid_turnbuckle_arena_widths)], narrowed := true }
def ChainEndsUptoSaid : Prop := chainEndsUptoRow.holds Tryd.pinned (OpenSpec.upto chainEndsSpec)

/-- 'turnbucklelaw10.ChainBothWays', WHERE WHAT IT READS IS OF BULK AT MOST 1048576: true; the input reads as it did. -/
def chainBothWaysUptoRow : OpenClaim := { program := "ythklbkgehfgdgaadoor", sum := "e8b7084f4f7d24d44fd05ba80f47e1d5545ff67b46a49a0931e4e442faa63542", func := "turnbuckle/turnbucklelaw10.ChainBothWays", spec := "chainBothWays", named := ["turnbuckle/arena.widths"], apart := false, laid := [("turnbuckle/arena.widths", laid_turnbuckle_arena_widths)], narrowed := true }
def ChainBothWaysUptoSaid : Prop := chainBothWaysUptoRow.holds Tryd.pinned (OpenSpec.upto chainBothWaysSpec)

/-- 'turnbucklelaw10.ChainMoves', WHERE WHAT IT READS IS OF BULK AT MOST 1048576: true; the input reads as it did. -/
def chainMovesUptoRow : OpenClaim := { program := "ythklbkgehfgdgaadoor", sum := "e8b7084f4f7d24d44fd05ba80f47e1d5545ff67b46a49a0931e4e442faa63542", func := "turnbuckle/turnbucklelaw10.ChainMoves", spec := "chainMoves", named := ["turnbuckle/arena.widths"], apart := false, laid := [("turnbuckle/arena.widths", laid_turnbuckle_arena_widths)], narrowed := true }
def ChainMovesUptoSaid : Prop := chainMovesUptoRow.holds Tryd.pinned (OpenSpec.upto chainMovesSpec)

/-- 'turnbucklelaw10.ChainOthers', WHERE WHAT IT READS IS OF BULK AT MOST 1048576: true; the input reads as it did. -/
def chainOthersUptoRow : OpenClaim := { program := "ythklbkgehfgdgaadoor", sum := "e8b7084f4f7d24d44fd05ba80f47e1d5545ff67b46a49a0931e4e442faa63542", func := "turnbuckle/turnbucklelaw10.ChainOthers", spec := "chainOthers", named := ["turnbuckle/arena.widths"], apart := false, laid := [("turnbuckle/arena.widths", laid_turnbuckle_arena_widths)], narrowed := true }
def ChainOthersUptoSaid : Prop := chainOthersUptoRow.holds Tryd.pinned (OpenSpec.upto chainOthersSpec)

end Rows
end Go.Proofs.YthklbkgehfgdgaaDoor
