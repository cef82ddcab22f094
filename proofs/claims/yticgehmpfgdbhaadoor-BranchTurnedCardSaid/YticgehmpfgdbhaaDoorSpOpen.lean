/- What a law is handed, as the walks ask it: a span's two numbers have at most 64 bits. No condition. -/
import Derived.Test.YticgehmpfgdbhaaDoorSpWords
import Derived.ChangeArms
import Derived.ProofKit
import Derived.OpenShut
import Derived.Lib.SmallJoins
import Derived.SizedLaws
namespace Go.Proofs.YticgehmpfgdbhaaDoor
open Go.ChangeShapes Go.WideShapes Go.ChangeAt Go.RowKit
set_option maxRecDepth 100000
theorem cells2S : Tryd.prog.cellsOf 24 = 2 := by kernel_rfl
section
variable {H : Type} {enc : TypeId × Value → H} {W : World} {base : Nat} {sp : Nat → Bool} {held : Bool}
/-- Two cells that read as a span are one. -/
theorem span_cells {fuel : Nat} {cs : List Value} {x : DataW H × List MemPlace} (h : DataW.trod enc Tryd.prog W base sp held fuel 24 cs = some x) : ∃ s : Sp, s.ok ∧ cs = [.int .u64 s.lo, .int .u64 s.hi] := by
  obtain ⟨xs, n, rfl, hx, hl, hxl, hall⟩ := DataW.trod_struct Tryd.underlying24 h
  have cu : Tryd.prog.cellsOf 22 = 1 := by kernel_rfl
  rw [cells2S] at hl
  match cs, hl with
  | [v0, v1], _ =>
    match xs, hxl with
    | [y0, y1], _ =>
      have t0 := hall 0 _ rfl
      have t1 := hall 1 _ rfl
      simp [cu] at t0 t1
      obtain ⟨z0, e0, _, f0⟩ := DataW.trod_int Tryd.underlying22 t0
      obtain ⟨z1, e1, _, f1⟩ := DataW.trod_int Tryd.underlying22 t1
      obtain ⟨n0, rfl, g0⟩ := nat_u64 f0
      obtain ⟨n1, rfl, g1⟩ := nat_u64 f1
      simp at e0 e1
      subst e0 e1
      exact ⟨⟨n0, n1⟩, ⟨g0, g1⟩, rfl⟩
theorem span_of {r : Reach} {b0 : Nat} {v : Value} {d : DataW H} {p : List MemPlace} (hv : Value.okWide Tryd.prog W r b0 24 v) (h : DataW.Trod enc Tryd.prog W base sp held 24 v d p) : ∃ s : Sp, v = spv s ∧ s.ok := by
  obtain ⟨cs, rfl, hsz⟩ := okWide_struct Tryd.underlying24 hv
  obtain ⟨fuel, hf⟩ := h
  obtain ⟨s, hs, e⟩ := span_cells hf
  refine ⟨s, ?_, hs⟩
  simp only [Value.cells] at e
  obtain ⟨l⟩ := cs
  simp at e
  subst e
  rfl
end
end Go.Proofs.YticgehmpfgdbhaaDoor
