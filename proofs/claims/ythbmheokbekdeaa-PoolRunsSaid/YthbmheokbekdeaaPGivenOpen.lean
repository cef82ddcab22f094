/- The given pages that a law is handed, as the walk asks them. -/
import Derived.Test.YthbmheokbekdeaaPRuns
import Derived.Deep.Slices
import Derived.ChangeArms
import Derived.ProofKit
namespace Go.Proofs.Ythbmheokbekdeaa
open Go.RowKit Go.Deep

theorem cells8 : Try.prog.cellsOf 5 = 1 := by kernel_rfl

theorem given_of {H : Type} {enc : TypeId × Value → H} {W : World} {base : Nat} {sp : Nat → Bool} {held : Bool} {fuel : Nat} {A : Option Addr} {len cap : Nat} {x : DataW H × List MemPlace}
    (h : DataW.trod enc Try.prog W base sp held fuel 45 (Value.cells (.slice A len cap)).toList = some x) : Given W A len ∧ len ≤ maxLen := by
  rcases open_slice Try.underlying45 h with ⟨h0, _⟩ | ⟨a, l, c, m, n, D, Pl, hcs, _, hl, hm, hmm, _, hi⟩
  · simp [Value.cells] at h0
    obtain ⟨rfl, rfl, rfl⟩ := h0
    exact ⟨fun i hi => absurd hi (by omega), by unfold maxLen; omega⟩
  · simp [Value.cells] at hcs
    obtain ⟨rfl, rfl, rfl⟩ := hcs
    refine ⟨fun i hil => ?_, by omega⟩
    have hlm : len ≤ m := by rw [hmm]; split <;> omega
    rw [cells8] at hi
    obtain ⟨cs0, hc0, _⟩ := hi 0 (by omega)
    obtain ⟨_, hl0, hat0⟩ := World.cells?_some hc0
    obtain ⟨b, o, spot⟩ := a
    have hspot : spot = none := by
      have h1 := hat0 0 (by omega)
      rw [List.getElem?_eq_getElem (show 0 < cs0.length by omega)] at h1
      simpa [Addr.add] using World.cell?_spot h1
    subst hspot
    obtain ⟨cs, hc, hd⟩ := hi i (by omega)
    obtain ⟨_, hcl, hat⟩ := World.cells?_some hc
    obtain ⟨v, e0, _, w1⟩ := DataW.trod_int Try.underlying5 hd
    subst e0
    have a0 := hat 0 (by simp)
    simp at a0
    have ea : Addr.add (Addr.add ⟨b, o, none⟩ i) 0 = ⟨b, o + i, none⟩ := by
      unfold Addr.add
      by_cases h1 : i = 0 <;> simp [h1]
    rw [ea] at a0
    have hb : b < W.heap.size := by
      rcases Nat.lt_or_ge b W.heap.size with hlt | hge
      · exact hlt
      · unfold World.cell? at a0
        rw [Array.getElem?_eq_none hge] at a0
        cases a0
    exact ⟨b, o, v, rfl, hb, a0, w1⟩

theorem lowest_walk (pages : Int) (A : Option Addr) (len cap : Nat) (w : World) (h0 : (Lit.int .u8 pages).wf = true) (hD : Given w A len ∧ len ≤ maxLen) :
    Calls Try.prog 7 #[.int .u8 pages, .slice A len cap] w fun e w' => e = .returned (.bool true) ∧ Below w.heap.size w w' :=
  lowest_some pages A len cap w h0 (by have := hD.2; unfold maxLen at this; omega) hD.1
theorem runs_walk (pages : Int) (A : Option Addr) (len cap : Nat) (m : Int) (w : World) (h0 : (Lit.int .u8 pages).wf = true) (h1 : (Lit.int .i64 m).wf = true) (hD : Given w A len ∧ len ≤ maxLen) :
    Calls Try.prog 5 #[.int .u8 pages, .slice A len cap, .int .i64 m] w fun e w' => e = .returned (.bool true) ∧ Below w.heap.size w w' :=
  runs_some pages A len cap m w h0 h1 (by have := hD.2; unfold maxLen at this; omega) hD.1
end Go.Proofs.Ythbmheokbekdeaa
