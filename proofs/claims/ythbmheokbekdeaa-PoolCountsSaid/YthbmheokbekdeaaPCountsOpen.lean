/- The deeds that a law is handed, as the walk asks them. -/
import Derived.Test.YthbmheokbekdeaaPCounts
import Derived.Deep.Slices
import Derived.ChangeArms
import Derived.ProofKit
namespace Go.Proofs.Ythbmheokbekdeaa
open Go.RowKit Go.Deep

theorem cells2 : Try.prog.cellsOf 31 = 2 := by kernel_rfl
theorem cellsI : Try.prog.cellsOf 3 = 1 := by kernel_rfl

theorem deeds_of {H : Type} {enc : TypeId × Value → H} {W : World} {base : Nat} {sp : Nat → Bool} {held : Bool} {fuel : Nat} {A : Option Addr} {len cap : Nat} {x : DataW H × List MemPlace}
    (h : DataW.trod enc Try.prog W base sp held fuel 22 (Value.cells (.slice A len cap)).toList = some x) : Deeds W A len ∧ len ≤ maxLen := by
  rcases open_slice Try.underlying22 h with ⟨h0, _⟩ | ⟨a, l, c, m, n, D, Pl, hcs, _, hl, hm, hmm, _, hi⟩
  · simp [Value.cells] at h0
    obtain ⟨rfl, rfl, rfl⟩ := h0
    exact ⟨fun i hi => absurd hi (by omega), by unfold maxLen; omega⟩
  · simp [Value.cells] at hcs
    obtain ⟨rfl, rfl, rfl⟩ := hcs
    refine ⟨fun i hil => ?_, by omega⟩
    have hlm : len ≤ m := by rw [hmm]; split <;> omega
    rw [cells2] at hi
    obtain ⟨cs0, hc0, _⟩ := hi 0 (by omega)
    obtain ⟨_, hl0, hat0⟩ := World.cells?_some hc0
    obtain ⟨b, o, spot⟩ := a
    have hspot : spot = none := by
      have h1 := hat0 0 (by omega)
      rw [List.getElem?_eq_getElem (show 0 < cs0.length by omega)] at h1
      simpa [Addr.add] using World.cell?_spot h1
    subst hspot
    obtain ⟨cs, hc, hd⟩ := hi i (by omega)
    obtain ⟨_, hcl, hat⟩ := World.cells?_some hc
    obtain ⟨xs, n', _, _, _, hxl, hf⟩ := DataW.trod_struct Try.underlying31 hd
    match cs, hcl, hat, hf with
    | [v0, v1], _, hat, hf =>
      have g0 := hf 0 _ rfl
      have g1 := hf 1 _ rfl
      have hx : ∀ j, j < 2 → ∃ y, xs[j]? = some y := fun j hj => ⟨xs[j]'(by simp at hxl; omega), List.getElem?_eq_getElem (by simp at hxl; omega)⟩
      obtain ⟨y0, hy0⟩ := hx 0 (by decide)
      obtain ⟨y1, hy1⟩ := hx 1 (by decide)
      obtain ⟨kd, e0, _, _⟩ := DataW.trod_int Try.underlying3 (g0.trans hy0)
      obtain ⟨nn, e1, _, w1⟩ := DataW.trod_int Try.underlying3 (g1.trans hy1)
      simp [cellsI] at e0 e1
      subst e0 e1
      have a0 := hat 0 (by decide)
      have a1 := hat 1 (by decide)
      have ea : ∀ j, Addr.add (Addr.add ⟨b, o, none⟩ (i * 2)) j = ⟨b, o + i * 2 + j, none⟩ := by
        intro j
        unfold Addr.add
        by_cases h1 : i * 2 = 0 <;> by_cases h2 : j = 0 <;> simp [h1, h2]
      rw [ea] at a0 a1
      have hb : b < W.heap.size := by
        rcases Nat.lt_or_ge b W.heap.size with hlt | hge
        · exact hlt
        · unfold World.cell? at a0
          rw [Array.getElem?_eq_none hge] at a0
          cases a0
      exact ⟨b, o, kd, nn, rfl, hb, a0, a1, w1⟩

theorem counts_walk (pages : Int) (A : Option Addr) (len cap : Nat) (w : World) (h0 : (Lit.int .u8 pages).wf = true) (hD : Deeds w A len ∧ len ≤ maxLen) :
    Calls Try.prog 8 #[.int .u8 pages, .slice A len cap] w fun e w' => e = .returned (.bool true) ∧ Below w.heap.size w w' :=
  counts_some pages A len cap w h0 (by have := hD.2; unfold maxLen at this; omega) hD.1
end Go.Proofs.Ythbmheokbekdeaa
