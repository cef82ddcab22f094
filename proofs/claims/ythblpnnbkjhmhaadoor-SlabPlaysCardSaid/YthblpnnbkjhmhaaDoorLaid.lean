/- What the row's condition gives the walks: the tables of widths and classes lie in their blocks. -/
import Derived.Test.YthblpnnbkjhmhaaDoorRows
import Derived.Test.YthblpnnbkjhmhaaDoorSBag
import Derived.ProofKit
import Derived.LaidMore
import Derived.OpenShut
import Derived.Stop.Joined
import Derived.Lib.LaidTab
namespace Go.Proofs.YthblpnnbkjhmhaaDoor
open Go.ChangeShapes Go.WideShapes Go.ChangeAt Go.RowKit

theorem own : ownKnob Tryd.prog.godebug = none := by kernel_rfl
theorem gWidths : Tryd.prog.globalNamed "turnbuckle/arena.widths" = some 1 := by kernel_rfl
theorem tWidths : (Tryd.prog.globals[1]?).map (·.type) = some 99 := by kernel_rfl
theorem gClasses : Tryd.prog.globalNamed "turnbuckle/slab.classes" = some 0 := by kernel_rfl
theorem tClasses : (Tryd.prog.globals[0]?).map (·.type) = some 88 := by kernel_rfl
theorem c4 : Tryd.prog.cellsOf 99 = 4 := by kernel_rfl
theorem c5 : Tryd.prog.cellsOf 88 = 5 := by kernel_rfl
theorem c1 : Tryd.prog.cellsOf 3 = 1 := by kernel_rfl

abbrev laidW : List (String × DataW Unit) := [("turnbuckle/arena.widths", Rows.laid_turnbuckle_arena_widths), ("turnbuckle/slab.classes", Rows.laid_turnbuckle_slab_classes)]

theorem door_met (os : Os) (args : Array Value) : laidMetH Tryd.prog laidW ((World.doorLaid Tryd.prog 400 os).forCall (fun _ _ => 0) ⟨#[], args, []⟩).memory :=
  laidMetH_of_parts3 (fuel := 8) (laidMet_of_run' 8 (by kernel_rfl) (by kernel_rfl)) (by kernel_rfl) (by kernel_rfl)

theorem of_laid {W : World} (h : laidMetH Tryd.prog laidW W) : Tbs W ∧ True := by
  rw [MakeChecks.laidMetH_plain _ _ _ (by kernel_rfl)] at h
  obtain ⟨ps, ⟨g0, t0, cs0, f0, p0, q0, hg0, ht0, hv0, hd0, hr, _⟩, _⟩ := h
  obtain ⟨g1, t1, cs1, f1, p1, q1, hg1, ht1, hv1, hd1, _, _⟩ := hr
  obtain rfl := Option.some.inj (gWidths.symm.trans hg0)
  obtain rfl := Option.some.inj (tWidths.symm.trans ht0)
  obtain rfl := Option.some.inj (gClasses.symm.trans hg1)
  obtain rfl := Option.some.inj (tClasses.symm.trans ht1)
  have hcs := Lib.cells_of_tab (zs := [1, 2, 4, 8]) Tryd.underlying99 Tryd.underlying3 c1 c4 hd0
  have hcs1 := Lib.cells_of_tab (zs := [16, 32, 64, 128, 256]) Tryd.underlying88 Tryd.underlying3 c1 c5 hd1
  simp only [World.var?, hg0, hg1, Option.bind_some] at hv0 hv1
  split at hv0
  · rename_i cs t fr hh
    obtain rfl := Option.some.inj hv0
    split at hv1
    · rename_i cs' t' fr' hh'
      obtain rfl := Option.some.inj hv1
      obtain ⟨l⟩ := cs
      obtain ⟨l'⟩ := cs'
      simp at hcs hcs1
      subst hcs
      subst hcs1
      exact ⟨⟨⟨t, fr, hh⟩, ⟨t', fr', hh'⟩, (Array.getElem?_eq_some_iff.1 hh).1, (Array.getElem?_eq_some_iff.1 hh').1⟩, trivial⟩
    · cases hv1
  · cases hv0
end Go.Proofs.YthblpnnbkjhmhaaDoor
