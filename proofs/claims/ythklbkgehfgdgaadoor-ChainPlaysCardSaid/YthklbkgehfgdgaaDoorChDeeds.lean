/- What chain's laws are handed, as the walks ask it: rows of deeds, a deed; the document's comparison of two slices that hold the same. No condition. -/
import Derived.Test.YthklbkgehfgdgaaDoorChMovesM
import Derived.Deep.Slices
import Derived.ChangeArms
import Derived.ProofKit
import Derived.OpenShut
namespace Go.Proofs.YthklbkgehfgdgaaDoor
open Go.RowKit Go.Deep
open Go.ChangeShapes Go.WideShapes Go.ChangeAt

/-- The deeds that are read. -/
def Deeds10 (w : World) (A : Option Addr) (len : Nat) : Prop := ∀ i, i < len → ∃ (b o : Nat) (kd : Int) (h x : Nat), A = some ⟨b, o, none⟩ ∧ b < w.heap.size ∧
  w.cell? ⟨b, o + i * 3, none⟩ = some (.int .i64 kd) ∧ w.cell? ⟨b, o + i * 3 + 1, none⟩ = some (.int .u8 (h : Nat)) ∧ w.cell? ⟨b, o + i * 3 + 2, none⟩ = some (.int .u8 (x : Nat)) ∧ h ≤ 255 ∧ x ≤ 255
/-- A deed's three cells. -/
abbrev D3 (w : World) (b o k : Nat) (kd : Int) (h x : Nat) : Prop :=
  w.cell? ⟨b, o + k * 3, none⟩ = some (.int .i64 kd) ∧ w.cell? ⟨b, o + k * 3 + 1, none⟩ = some (.int .u8 (h : Nat)) ∧ w.cell? ⟨b, o + k * 3 + 2, none⟩ = some (.int .u8 (x : Nat))
theorem d3_keep {w w' : World} {b o k : Nat} {kd : Int} {h x : Nat} (d : D3 w b o k kd h x) (hb : b < w.heap.size) (hl : Below w.heap.size w w') : D3 w' b o k kd h x :=
  ⟨(hl.cell (p := ⟨b, o + k * 3, none⟩) hb).trans d.1, (hl.cell (p := ⟨b, o + k * 3 + 1, none⟩) hb).trans d.2.1, (hl.cell (p := ⟨b, o + k * 3 + 2, none⟩) hb).trans d.2.2⟩
theorem cells3D : Tryd.prog.cellsOf 33 = 3 := by kernel_rfl
theorem cells1I : Tryd.prog.cellsOf 3 = 1 := by kernel_rfl
theorem cells1U : Tryd.prog.cellsOf 5 = 1 := by kernel_rfl
theorem byte_nat {z : Int} (h : (Lit.int .u8 z).wf = true) : ∃ n : Nat, z = n ∧ n ≤ 255 := by
  have : 0 ≤ z ∧ z ≤ 255 := Go.bounds_u8 h
  exact ⟨z.toNat, by omega, by omega⟩
section
variable {H : Type} {enc : TypeId × Value → H} {W : World} {base : Nat} {sp : Nat → Bool} {held : Bool}
theorem deed_cells {fuel : Nat} {cs : List Value} {x : DataW H × List MemPlace} (hd : DataW.trod enc Tryd.prog W base sp held fuel 33 cs = some x) :
    ∃ (kd : Int) (h x : Nat), cs = [.int .i64 kd, .int .u8 (h : Nat), .int .u8 (x : Nat)] ∧ h ≤ 255 ∧ x ≤ 255 := by
  obtain ⟨xs, n', _, _, hcl, hxl, hf⟩ := DataW.trod_struct Tryd.underlying33 hd
  rw [cells3D] at hcl
  match cs, hcl with
  | [v0, v1, v2], _ =>
    have g0 := hf 0 _ rfl
    have g1 := hf 1 _ rfl
    have g2 := hf 2 _ rfl
    have hx : ∀ j, j < 3 → ∃ y, xs[j]? = some y := fun j hj => ⟨xs[j]'(by simp at hxl; omega), List.getElem?_eq_getElem (by simp at hxl; omega)⟩
    obtain ⟨y0, hy0⟩ := hx 0 (by decide)
    obtain ⟨y1, hy1⟩ := hx 1 (by decide)
    obtain ⟨y2, hy2⟩ := hx 2 (by decide)
    obtain ⟨kd, e0, _, _⟩ := DataW.trod_int Tryd.underlying3 (g0.trans hy0)
    obtain ⟨h, e1, _, w1⟩ := DataW.trod_int Tryd.underlying5 (g1.trans hy1)
    obtain ⟨x, e2, _, w2⟩ := DataW.trod_int Tryd.underlying5 (g2.trans hy2)
    obtain ⟨h, rfl, hh⟩ := byte_nat w1
    obtain ⟨x, rfl, hx⟩ := byte_nat w2
    simp [cells1I, cells1U] at e0 e1 e2
    subst e0 e1 e2
    exact ⟨kd, h, x, rfl, hh, hx⟩
theorem deeds10_of {fuel : Nat} {A : Option Addr} {len cap : Nat} {x : DataW H × List MemPlace}
    (h : DataW.trod enc Tryd.prog W base sp held fuel 22 (Value.cells (.slice A len cap)).toList = some x) : Deeds10 W A len ∧ len ≤ 9223372036854775807 := by
  rcases open_slice Tryd.underlying22 h with ⟨h0, _⟩ | ⟨a, l, c, m, n, D, Pl, hcs, _, hl, hm, hmm, _, hi⟩
  · simp [Value.cells] at h0
    obtain ⟨rfl, rfl, rfl⟩ := h0
    exact ⟨fun i hi => absurd hi (by omega), by omega⟩
  · simp [Value.cells] at hcs
    obtain ⟨rfl, rfl, rfl⟩ := hcs
    refine ⟨fun i hil => ?_, by have : len ≤ maxLen := by omega
                                unfold maxLen at this; omega⟩
    have hlm : len ≤ m := by rw [hmm]; split <;> omega
    rw [cells3D] at hi
    obtain ⟨cs0, hc0, _⟩ := hi 0 (by omega)
    obtain ⟨_, hl0, hat0⟩ := World.cells?_some hc0
    obtain ⟨b, o, spot⟩ := a
    have hspot : spot = none := by
      have h1 := hat0 0 (by omega)
      rw [List.getElem?_eq_getElem (show 0 < cs0.length by omega)] at h1
      simpa [Addr.add] using World.cell?_spot h1
    subst hspot
    obtain ⟨cs, hc, hd⟩ := hi i (by omega)
    obtain ⟨_, hcl, hat⟩ := World.cells?_some hc
    obtain ⟨kd, h', x', rfl, hh, hx⟩ := deed_cells hd
    have a0 := hat 0 (by decide)
    have a1 := hat 1 (by decide)
    have a2 := hat 2 (by decide)
    have ea : ∀ j, Addr.add (Addr.add ⟨b, o, none⟩ (i * 3)) j = ⟨b, o + i * 3 + j, none⟩ := by
      intro j
      unfold Addr.add
      by_cases h1 : i * 3 = 0 <;> by_cases h2 : j = 0 <;> simp [h1, h2]
    rw [ea] at a0 a1 a2
    have hb : b < W.heap.size := by
      rcases Nat.lt_or_ge b W.heap.size with hlt | hge
      · exact hlt
      · unfold World.cell? at a0
        rw [Array.getElem?_eq_none hge] at a0
        cases a0
    exact ⟨b, o, kd, h', x', rfl, hb, a0, a1, a2, hh, hx⟩
/-- A deed by itself. -/
structure Dd where
  kd : Int
  h : Nat
  x : Nat
def Dd.v (s : Dd) : Value := .agg #[.int .i64 s.kd, .int .u8 (s.h : Nat), .int .u8 (s.x : Nat)]
def Dd.ok (s : Dd) : Prop := s.h ≤ 255 ∧ s.x ≤ 255
theorem deed10_of {r : Reach} {b0 : Nat} {v : Value} {d : DataW H} {p : List MemPlace} (hv : Value.okWide Tryd.prog W r b0 33 v) (h : DataW.Trod enc Tryd.prog W base sp held 33 v d p) : ∃ s : Dd, v = s.v ∧ s.ok := by
  obtain ⟨cs, rfl, hsz⟩ := okWide_struct Tryd.underlying33 hv
  obtain ⟨fuel, hf⟩ := h
  obtain ⟨kd, h', x', e, hh, hx⟩ := deed_cells hf
  refine ⟨⟨kd, h', x'⟩, ?_, hh, hx⟩
  simp only [Value.cells] at e
  obtain ⟨l⟩ := cs
  simp at e
  subst e
  rfl
end
section
variable {w : World}
set_option maxRecDepth 100000 in
theorem same_sx {B B' : Bx} {A A' : Option Addr} {xs : List Nat} (cap cap' k : Nat) (h : Sx w B A xs) (h' : Sx w B' A' xs) (hk : xs.length = k) (hl : k ≤ 100000) :
    Calls Tryd.prog 26 #[.slice A k cap, .slice A' k cap'] w fun e w' => e = .returned (.bool true) ∧ Below w.heap.size w w' := by
  have HR := Lib.hid h
  have HR' := Lib.hid h'
  have HK := Lib.hid hk
  clear h h' hk
  go_enter Tryd.func26, Tryd.ntmps26
  go_wp2_with fail
  go_loopw [5] (fun i wr => ∃ j : Nat, j ≤ k ∧ i = .int .i64 j ∧ Hid (Below w.heap.size w wr)) (fun i _ => k - (intOf i).toNat)
  case atStart => exact ⟨0, Nat.zero_le _, rfl, Below.refl _ _⟩
  case round =>
    obtain ⟨j, hj, rfl, HW⟩ := hrel
    by_cases hlt : j < k
    · have hx : xs[j]? = some (xs[j]'(by rw [HK.out]; exact hlt)) := List.getElem?_eq_getElem _
      generalize xs[j]'(by rw [HK.out]; exact hlt) = x at hx
      obtain ⟨b, o, rfl, _, _, c1⟩ := (HR.out.keep (Kx.below HW.out)) j x hx
      obtain ⟨b', o', rfl, _, _, c2⟩ := (HR'.out.keep (Kx.below HW.out)) j x hx
      have hji : (j : Int) < (k : Int) := by omega
      clear hx
      go_wp2_with fail
      go_quiet (fail)
      go_wp2_with fail
      go_roundw
      case rel => exact ⟨j + 1, by omega, by go_num, Lib.hid (HW.out.trans ⟨rfl, rfl, rfl, Nat.le_refl _, fun _ _ => rfl⟩)⟩
      case measure => simp [intOf]; omega
    · obtain rfl : j = k := by omega
      go_wp2_with fail
      go_ret
      exact ⟨rfl, HW.out⟩
end
end Go.Proofs.YthklbkgehfgdgaaDoor
