/- The contract of chain's unlink. Conditions: the table of widths lies in its block; the arena's blocks are known; its bytes are lists' links. -/
import Derived.Test.YtiacclmapicmdaaDoorChSmall
import Derived.Deep.RegionHeld3
namespace Go.Proofs.YtiacclmapicmdaaDoor
open Go.RowKit

/-- An arena of n bytes, f, in blocks p and g, beside the table of widths. -/
structure Aw (w : World) (p g n : Nat) (f : Nat → Int) : Prop where
  tab : Tab w
  wg : 0 < g
  ar : Ar w p g n f
section
variable {w w' : World} {p g n : Nat} {f f' : Nat → Int}
theorem Aw.w0 (a : Aw w p g n f) : 0 < w.heap.size := Nat.lt_trans a.wg a.ar.body.lt
theorem Aw.below (a : Aw w p g n f) (h : Below w.heap.size w w') : Aw w' p g n f := ⟨a.tab.below h a.w0, a.wg, a.ar.below h a.ar.head.lt a.ar.body.lt⟩
theorem Aw.fg (a : Aw w p g n f) (h : Fg g w w') (h' : Ar w' p g n f') : Aw w' p g n f' := ⟨a.tab.fg h a.w0 a.wg, a.wg, h'⟩
theorem Aw.drew (a : Aw w p g n f) : Aw w.drew p g n f := a.below ((Below.refl _ w).drew)
theorem Aw.gb (a : Aw w p g n f) : g < w.heap.size := a.ar.body.lt
end
section
variable {w0 w w' : World} {p g n b : Nat} {f f' : Nat → Int}
end
section
variable {w : World} {p g n : Nat} {H : List Nat} {N : Nat → Prop} {L : Nat → List Nat} {f : Nat → Int}
theorem Ch.oh_bd (c : Ch n H N L f) {h : Nat} (hh : h ∈ H) {v : Nat} (hv : v = 0 ∨ v ∈ L h) : oh v h + 8 ≤ n ∧ 1 ≤ oh v h := by
  have hb : Base H N (oh v h) := by
    unfold oh
    split
    · exact .inl hh
    · rename_i hne
      exact .inr (c.mem h hh _ (hv.resolve_left hne))
  have := c.lay.pos hb
  omega
theorem Ch.val_bd (c : Ch n H N L f) {h : Nat} (hh : h ∈ H) {v : Nat} (hv : v = 0 ∨ v ∈ L h) : v ≤ 65536 := by
  rcases hv with rfl | hv
  · omega
  · have := c.lay.xin v (c.mem h hh v hv)
    have := c.big
    omega
end
end Go.Proofs.YtiacclmapicmdaaDoor
