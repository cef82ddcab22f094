/- A tree's links in an arena of the program's, and a function's own box of the links. No condition but that the blocks are known. -/
import Derived.Test.YtiacclmapicmdaaDoorTrMemB
import Derived.Test.YtiacclmapicmdaaDoorTrOrder
import Derived.Test.YtiacclmapicmdaaDoorChUnlink
namespace Go.Proofs.YtiacclmapicmdaaDoor
open Go.RowKit

/-- What stays from call to call: the arena's blocks and length, where leaves lie and the root, which numbers are leaves, the bytes before. -/
structure Cx where
  p : Nat
  g : Nat
  n : Nat
  ad : Nat → Nat
  rt : Nat
  N : Nat → Prop
  f0 : Nat → Int
/-- None has no links. -/
structure Zn (s : Tr) : Prop where
  ch : ∀ d, s.ch 0 d = 0
  par : s.par 0 = 0
  red : s.red 0 = false
/-- The arena's bytes are the links s, of which I are in the tree; the other bytes are as before. -/
structure Tf (c : Cx) (w : World) (s : Tr) (I : Nat → Bool) (f : Nat → Int) : Prop where
  aw : Aw w c.p c.g c.n f
  tm : Tm c.n c.ad c.rt c.N s I f
  kp : KeepT c.rt c.ad c.N c.f0 f
  zn : Zn s
def Td (c : Cx) (w : World) (s : Tr) (I : Nat → Bool) : Prop := ∃ f, Tf c w s I f
section
variable {s : Tr}
theorem Zn.paint (z : Zn s) (k : Nat) (c : Bool) : Zn (s.paint k c) := ⟨fun d => by rw [Tr.ch_paint]; exact z.ch d, by rw [Tr.par_paint]; exact z.par, by
  rw [Tr.red_paint, if_neg (fun h => h.2 h.1.symm)]; exact z.red⟩
theorem Zn.join (z : Zn s) (p k : Nat) (d : Bool) : Zn (s.join p d k) := ⟨fun e => by
  rw [Tr.ch_join, if_neg (fun h => h.2.1 h.1.symm)]; exact z.ch e, by
  rw [Tr.par_join, if_neg (fun h => h.2 h.1.symm)]; exact z.par, by rw [Tr.red_join]; exact z.red⟩
theorem Zn.place (z : Zn s) (o k : Nat) : Zn (s.place o k) := by unfold Tr.place; exact z.join _ _ _
theorem Zn.turn (z : Zn s) (x : Nat) (d : Bool) : Zn (s.turn x d) := by unfold Tr.turn; exact ((z.place _ _).join _ _ _).join _ _ _
theorem Zn.link (z : Zn s) (p : Nat) (d : Bool) (k : Nat) : Zn (s.link p d k) := by
  unfold Tr.link Tr.put
  by_cases h : p = 0
  · rw [if_pos h]; exact ⟨z.ch, z.par, z.red⟩
  · rw [if_neg h, if_neg h]
    have h0 : ¬ (0 = p) := fun e => h e.symm
    refine ⟨fun e => ?_, ?_, ?_⟩
    · have := z.ch e; unfold Tr.ch at this ⊢; simp only [if_neg h0]; exact this
    · have := z.par; unfold Tr.par at this ⊢; simp only [if_neg h0]; exact this
    · have := z.red; unfold Tr.red at this ⊢; simp only [if_neg h0]; exact this
theorem Zn.clr (z : Zn s) {k : Nat} (h : k ≠ 0) : Zn (s.clr k) := by
  have h0 : ¬ (0 = k) := fun e => h e.symm
  unfold Tr.clr
  refine ⟨fun e => ?_, ?_, ?_⟩
  · have := z.ch e; unfold Tr.ch at this ⊢; simp only [if_neg h0]; exact this
  · have := z.par; unfold Tr.par at this ⊢; simp only [if_neg h0]; exact this
  · have := z.red; unfold Tr.red at this ⊢; simp only [if_neg h0]; exact this
end
section
variable {c : Cx} {w w' : World} {s : Tr} {I : Nat → Bool} {f : Nat → Int}
theorem Td.below (t : Td c w s I) (h : Below w.heap.size w w') : Td c w' s I := by
  obtain ⟨f, t⟩ := t
  exact ⟨f, t.aw.below h, t.tm, t.kp, t.zn⟩
theorem Td.drew (t : Td c w s I) : Td c w.drew s I := t.below ((Below.refl _ w).drew)
theorem Td.w0 (t : Td c w s I) : 0 < w.heap.size := by obtain ⟨f, t⟩ := t; exact t.aw.w0
theorem Td.gb (t : Td c w s I) : c.g < w.heap.size := by obtain ⟨f, t⟩ := t; exact t.aw.gb
theorem Td.pb (t : Td c w s I) : c.p < w.heap.size := by obtain ⟨f, t⟩ := t; exact t.aw.ar.head.lt
theorem Td.pl (t : Td c w s I) : Pl c.n c.ad c.rt c.N := by obtain ⟨f, t⟩ := t; exact t.tm.pl
theorem Td.zn (t : Td c w s I) : Zn s := by obtain ⟨f, t⟩ := t; exact t.zn
theorem Td.topN (t : Td c w s I) : s.top = 0 ∨ c.N s.top := by obtain ⟨f, t⟩ := t; exact t.tm.topN
theorem Td.chN (t : Td c w s I) {x : Nat} (hx : x = 0 ∨ c.N x) (d : Bool) : s.ch x d = 0 ∨ c.N (s.ch x d) := by
  obtain ⟨f, t⟩ := t
  rcases hx with rfl | hx
  · exact .inl (t.zn.ch d)
  · exact (t.tm.lkN x hx).1 d
theorem Td.parN (t : Td c w s I) {x : Nat} (hx : x = 0 ∨ c.N x) : s.par x = 0 ∨ c.N (s.par x) := by
  obtain ⟨f, t⟩ := t
  rcases hx with rfl | hx
  · exact .inl t.zn.par
  · exact (t.tm.lkN x hx).2
/-- The numbers of places: as integers they are alike just when the leaves are. -/
theorem Td.eqi (t : Td c w s I) {x y : Nat} (hx : x = 0 ∨ c.N x) (hy : y = 0 ∨ c.N y) : ((c.ad x : Nat) : Int) = (c.ad y : Nat) ↔ x = y := by
  have := t.pl.inj hx hy
  omega
theorem Td.zi (t : Td c w s I) {x : Nat} (hx : x = 0 ∨ c.N x) : ((c.ad x : Nat) : Int) = 0 ↔ x = 0 := by
  have := t.pl.zero hx
  omega
theorem Td.bd (t : Td c w s I) {x : Nat} (hx : x = 0 ∨ c.N x) : c.ad x ≤ 65536 := (t.pl.bd hx).2
end
end Go.Proofs.YtiacclmapicmdaaDoor
