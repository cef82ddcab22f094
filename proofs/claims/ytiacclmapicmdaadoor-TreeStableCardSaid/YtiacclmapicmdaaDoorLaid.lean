/- What the row's condition gives the walks: the table of widths lies in its block. -/
import Derived.Test.YtiacclmapicmdaaDoorRows
import Derived.Test.YtiacclmapicmdaaDoorSmall
import Derived.ProofKit
import Derived.LaidMore
import Derived.OpenShut
import Derived.Stop.Joined
import Derived.Lib.LaidTab
namespace Go.Proofs.YtiacclmapicmdaaDoor
open Go.ChangeShapes Go.WideShapes Go.ChangeAt Go.RowKit

theorem own : ownKnob Tryd.prog.godebug = none := by kernel_rfl
theorem gWidths : Tryd.prog.globalNamed "turnbuckle/arena.widths" = some 0 := by kernel_rfl
theorem tWidths : (Tryd.prog.globals[0]?).map (·.type) = some 93 := by kernel_rfl
theorem c4 : Tryd.prog.cellsOf 93 = 4 := by kernel_rfl
theorem c1 : Tryd.prog.cellsOf 3 = 1 := by kernel_rfl

abbrev laidW : List (String × DataW Unit) := [("turnbuckle/arena.widths", Rows.laid_turnbuckle_arena_widths)]

theorem door_met (os : Os) (args : Array Value) : laidMetH Tryd.prog laidW ((World.doorLaid Tryd.prog 400 os).forCall (fun _ _ => 0) ⟨#[], args, []⟩).memory :=
  laidMetH_of_parts3 (fuel := 8) (laidMet_of_run' 8 (by kernel_rfl) (by kernel_rfl)) (by kernel_rfl) (by kernel_rfl)

theorem of_laid {W : World} (h : laidMetH Tryd.prog laidW W) : Tab W ∧ 0 < W.heap.size := by
  rw [MakeChecks.laidMetH_plain _ _ _ (by kernel_rfl)] at h
  obtain ⟨ps, ⟨g0, t0, cs0, f0, p0, q0, hg0, ht0, hv0, hd0, _, _⟩, _, _⟩ := h
  obtain rfl := Option.some.inj (gWidths.symm.trans hg0)
  obtain rfl := Option.some.inj (tWidths.symm.trans ht0)
  have hcs := Lib.cells_of_tab (zs := [1, 2, 4, 8]) Tryd.underlying93 Tryd.underlying3 c1 c4 hd0
  simp only [World.var?, hg0, Option.bind_some] at hv0
  split at hv0
  · rename_i cs t fr hh
    obtain rfl := Option.some.inj hv0
    obtain ⟨l⟩ := cs
    simp at hcs
    subst hcs
    exact ⟨⟨t, fr, hh⟩, (Array.getElem?_eq_some_iff.1 hh).1⟩
  · cases hv0
end Go.Proofs.YtiacclmapicmdaaDoor
