/- The contracts of chain's small functions: holds, link, set, sides, orHead. Conditions: the table of widths lies in its block; the arena's blocks are known. -/
import Derived.Test.YtiacclmapicmdaaDoorAny
import Derived.Test.YtiacclmapicmdaaDoorChCut
import Derived.IntWalk
import Derived.BigQuiet
namespace Go.Proofs.YtiacclmapicmdaaDoor
open Go.RowKit

/-- w' is w, but for what block g holds, and for new blocks. -/
structure Fg (g : Nat) (w w' : World) : Prop where
  os : w'.os = w.os
  tape : w'.tape = w.tape
  output : w'.output = w.output
  size : w.heap.size ≤ w'.heap.size
  block : ∀ k, k < w.heap.size → k ≠ g → w'.heap[k]? = w.heap[k]?
section
variable {g : Nat} {w w' w'' : World}
theorem Fg.refl (g : Nat) (w : World) : Fg g w w := ⟨rfl, rfl, rfl, Nat.le_refl _, fun _ _ _ => rfl⟩
theorem Fg.trans (h : Fg g w w') (k : Fg g w' w'') : Fg g w w'' :=
  ⟨k.os.trans h.os, k.tape.trans h.tape, k.output.trans h.output, Nat.le_trans h.size k.size, fun i hi hg => (k.block i (Nat.lt_of_lt_of_le hi h.size) hg).trans (h.block i hi hg)⟩
theorem Fg.of_only (h : Only g w w') : Fg g w w' := ⟨h.os, h.tape, h.output, Nat.le_of_eq h.size.symm, fun k _ hg => h.block k hg⟩
theorem Fg.of_below {B : Nat} (h : Below B w w') (hB : w.heap.size ≤ B) : Fg g w w' := ⟨h.os, h.tape, h.output, h.size, fun k hk _ => h.block k (by omega)⟩
theorem Fg.below {B : Nat} (h : Fg g w w') (hB : B ≤ w.heap.size) (hg : B ≤ g) : Below B w w' := ⟨h.os, h.tape, h.output, h.size, fun k hk => h.block k (by omega) (by omega)⟩
theorem Blk.fg {b : Nat} {t : TypeId} {cs : Array Value} (h : Blk w b t cs) (ho : Fg g w w') (hb : b ≠ g) : Blk w' b t cs := (ho.block b h.lt hb).trans h
theorem Tab.fg (h : Tab w) (ho : Fg g w w') (hw : 0 < w.heap.size) (hg : 0 < g) : Tab w' := by
  obtain ⟨t, fr, e⟩ := h
  exact ⟨t, fr, (ho.block _ hw (by omega)).trans e⟩
theorem below_one (w : World) (o : Obj) : Below w.heap.size w (w.alloc o) := (Below.refl _ w).alloc (Nat.le_refl _) o
end
/-- A chain's links: the arena's pointer, boxed. -/
abbrev lv (p : Nat) : Value := .agg #[.pointer (some ⟨p, 0, none⟩)]

section
variable {w : World} {p g n : Nat} {f : Nat → Int}
/-- Is something of that size within? -/
def hd (n : Nat) (a size : Int) : Bool := decide (1 ≤ a) && decide (a ≤ n - size)
end
end Go.Proofs.YtiacclmapicmdaaDoor
