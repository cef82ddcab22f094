/- Deeds as a law of tree is handed them. No condition. -/
import Derived.Test.YtiacclmapicmdaaDoorTrBlk
namespace Go.Proofs.YtiacclmapicmdaaDoor
open Go.RowKit Go.Deep
open Go.ChangeShapes Go.WideShapes Go.ChangeAt

/-- The deeds that are read. -/
def Deeds11 (w : World) (A : Option Addr) (len : Nat) : Prop := ∀ i, i < len → ∃ (b o : Nat) (aw : Bool) (n : Nat), A = some ⟨b, o, none⟩ ∧ b < w.heap.size ∧
  w.cell? ⟨b, o + i * 2, none⟩ = some (.bool aw) ∧ w.cell? ⟨b, o + i * 2 + 1, none⟩ = some (.int .u8 (n : Nat)) ∧ n ≤ 255
theorem Deeds11.below {w w' : World} {A : Option Addr} {len : Nat} (d : Deeds11 w A len) (h : Below w.heap.size w w') : Deeds11 w' A len := fun i hi => by
  obtain ⟨b, o, aw, n, h1, h2, h3, h4, h5⟩ := d i hi
  exact ⟨b, o, aw, n, h1, Nat.lt_of_lt_of_le h2 h.size, (h.cell (p := ⟨b, o + i * 2, none⟩) h2).trans h3, (h.cell (p := ⟨b, o + i * 2 + 1, none⟩) h2).trans h4, h5⟩
theorem cells2D : Tryd.prog.cellsOf 33 = 2 := by kernel_rfl
theorem cells1B : Tryd.prog.cellsOf 4 = 1 := by kernel_rfl
theorem cells1U8 : Tryd.prog.cellsOf 5 = 1 := by kernel_rfl
section
variable {H : Type} {enc : TypeId × Value → H} {W : World} {base : Nat} {sp : Nat → Bool} {held : Bool}
theorem deed11_cells {fuel : Nat} {cs : List Value} {x : DataW H × List MemPlace} (hd : DataW.trod enc Tryd.prog W base sp held fuel 33 cs = some x) :
    ∃ (aw : Bool) (n : Nat), cs = [.bool aw, .int .u8 (n : Nat)] ∧ n ≤ 255 := by
  obtain ⟨xs, n', _, _, hcl, hxl, hf⟩ := DataW.trod_struct Tryd.underlying33 hd
  rw [cells2D] at hcl
  match cs, hcl with
  | [v0, v1], _ =>
    have g0 := hf 0 _ rfl
    have g1 := hf 1 _ rfl
    have hx : ∀ j, j < 2 → ∃ y, xs[j]? = some y := fun j hj => ⟨xs[j]'(by simp at hxl; omega), List.getElem?_eq_getElem (by simp at hxl; omega)⟩
    obtain ⟨y0, hy0⟩ := hx 0 (by decide)
    obtain ⟨y1, hy1⟩ := hx 1 (by decide)
    obtain ⟨aw, e0, _⟩ := DataW.trod_bool Tryd.underlying4 (g0.trans hy0)
    obtain ⟨z, e1, _, w1⟩ := DataW.trod_int Tryd.underlying5 (g1.trans hy1)
    have hz : 0 ≤ z ∧ z ≤ 255 := Go.bounds_u8 w1
    simp [cells1B, cells1U8] at e0 e1
    subst e0 e1
    exact ⟨aw, z.toNat, by rw [show ((z.toNat : Nat) : Int) = z by omega], by omega⟩
theorem deeds11_of {fuel : Nat} {A : Option Addr} {len cap : Nat} {x : DataW H × List MemPlace}
    (h : DataW.trod enc Tryd.prog W base sp held fuel 23 (Value.cells (.slice A len cap)).toList = some x) : Deeds11 W A len ∧ len ≤ 9223372036854775807 := by
  rcases open_slice Tryd.underlying23 h with ⟨h0, _⟩ | ⟨a, l, c, m, n, D, Pl, hcs, _, hl, hm, hmm, _, hi⟩
  · simp [Value.cells] at h0
    obtain ⟨rfl, rfl, rfl⟩ := h0
    exact ⟨fun i hi => absurd hi (by omega), by omega⟩
  · simp [Value.cells] at hcs
    obtain ⟨rfl, rfl, rfl⟩ := hcs
    have hlen9 : len ≤ 9223372036854775807 := by
      have : len ≤ maxLen := by omega
      unfold maxLen at this
      omega
    refine ⟨fun i hil => ?_, hlen9⟩
    have hlm : len ≤ m := by rw [hmm]; split <;> omega
    rw [cells2D] at hi
    obtain ⟨cs0, hc0, _⟩ := hi 0 (by omega)
    obtain ⟨_, hl0, hat0⟩ := World.cells?_some hc0
    obtain ⟨b, o, spot⟩ := a
    have hspot : spot = none := by
      have h1 := hat0 0 (by omega)
      rw [List.getElem?_eq_getElem (show 0 < cs0.length by omega)] at h1
      simpa [Addr.add] using World.cell?_spot h1
    subst hspot
    obtain ⟨cs, hc, hd⟩ := hi i (by omega)
    obtain ⟨_, hcl, hat⟩ := World.cells?_some hc
    obtain ⟨aw, n', rfl, hn⟩ := deed11_cells hd
    have a0 := hat 0 (by simp)
    have a1 := hat 1 (by simp)
    simp at a0 a1
    have ea : ∀ j, Addr.add (Addr.add ⟨b, o, none⟩ (i * 2)) j = ⟨b, o + i * 2 + j, none⟩ := fun j => by
      rw [addr_plus, addr_plus]
    have e0 := ea 0
    rw [Nat.add_zero] at e0
    rw [e0] at a0
    rw [ea 1] at a1
    have hb : b < W.heap.size := by
      rcases Nat.lt_or_ge b W.heap.size with hlt | hge
      · exact hlt
      · unfold World.cell? at a0
        rw [Array.getElem?_eq_none hge] at a0
        cases a0
    exact ⟨b, o, aw, n', rfl, hb, a0, a1, hn⟩
end
end Go.Proofs.YtiacclmapicmdaaDoor
