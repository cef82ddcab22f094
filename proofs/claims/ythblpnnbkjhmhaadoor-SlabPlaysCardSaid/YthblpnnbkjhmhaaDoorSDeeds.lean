/- The deeds that a law is handed, as the walk asks them. -/
import Derived.Test.YthblpnnbkjhmhaaDoorSRAllocW
import Derived.Deep.RegionHeld3
import Derived.Deep.AppendLies
namespace Go.Proofs.YthblpnnbkjhmhaaDoor
open Go.RowKit Go.Deep

/-- The deeds that are read. -/
def Deeds (w : World) (A : Option Addr) (len : Nat) : Prop := ∀ i, i < len → ∃ (b o : Nat) (kd n : Int), A = some ⟨b, o, none⟩ ∧ b < w.heap.size ∧
  w.cell? ⟨b, o + i * 2, none⟩ = some (.int .i64 kd) ∧ w.cell? ⟨b, o + i * 2 + 1, none⟩ = some (.int .i64 n) ∧ (Lit.int .i64 n).wf = true
theorem cells2 : Tryd.prog.cellsOf 36 = 2 := by kernel_rfl
theorem cellsI : Tryd.prog.cellsOf 3 = 1 := by kernel_rfl

theorem deeds_of {H : Type} {enc : TypeId × Value → H} {W : World} {base : Nat} {sp : Nat → Bool} {held : Bool} {fuel : Nat} {A : Option Addr} {len cap : Nat} {x : DataW H × List MemPlace}
    (h : DataW.trod enc Tryd.prog W base sp held fuel 22 (Value.cells (.slice A len cap)).toList = some x) : Deeds W A len ∧ len ≤ 9223372036854775807 := by
  rcases open_slice Tryd.underlying22 h with ⟨h0, _⟩ | ⟨a, l, c, m, n, D, Pl, hcs, _, hl, hm, hmm, _, hi⟩
  · simp [Value.cells] at h0
    obtain ⟨rfl, rfl, rfl⟩ := h0
    exact ⟨fun i hi => absurd hi (by omega), by omega⟩
  · simp [Value.cells] at hcs
    obtain ⟨rfl, rfl, rfl⟩ := hcs
    refine ⟨fun i hil => ?_, by have : len ≤ maxLen := by omega
                                unfold maxLen at this; omega⟩
    have hlm : len ≤ m := by rw [hmm]; split <;> omega
    rw [cells2] at hi
    obtain ⟨cs0, hc0, _⟩ := hi 0 (by omega)
    obtain ⟨_, hl0, hat0⟩ := World.cells?_some hc0
    obtain ⟨b, o, spot⟩ := a
    have hspot : spot = none := by
      have h1 := hat0 0 (by omega)
      rw [List.getElem?_eq_getElem (show 0 < cs0.length by omega)] at h1
      simpa [Addr.add] using World.cell?_spot h1
    subst hspot
    obtain ⟨cs, hc, hd⟩ := hi i (by omega)
    obtain ⟨_, hcl, hat⟩ := World.cells?_some hc
    obtain ⟨xs, n', _, _, _, hxl, hf⟩ := DataW.trod_struct Tryd.underlying36 hd
    match cs, hcl, hat, hf with
    | [v0, v1], _, hat, hf =>
      have g0 := hf 0 _ rfl
      have g1 := hf 1 _ rfl
      have hx : ∀ j, j < 2 → ∃ y, xs[j]? = some y := fun j hj => ⟨xs[j]'(by simp at hxl; omega), List.getElem?_eq_getElem (by simp at hxl; omega)⟩
      obtain ⟨y0, hy0⟩ := hx 0 (by decide)
      obtain ⟨y1, hy1⟩ := hx 1 (by decide)
      obtain ⟨kd, e0, _, _⟩ := DataW.trod_int Tryd.underlying3 (g0.trans hy0)
      obtain ⟨nn, e1, _, w1⟩ := DataW.trod_int Tryd.underlying3 (g1.trans hy1)
      simp [cellsI] at e0 e1
      subst e0 e1
      have a0 := hat 0 (by decide)
      have a1 := hat 1 (by decide)
      have ea : ∀ j, Addr.add (Addr.add ⟨b, o, none⟩ (i * 2)) j = ⟨b, o + i * 2 + j, none⟩ := by
        intro j
        unfold Addr.add
        by_cases h1 : i * 2 = 0 <;> by_cases h2 : j = 0 <;> simp [h1, h2]
      rw [ea] at a0 a1
      have hb : b < W.heap.size := by
        rcases Nat.lt_or_ge b W.heap.size with hlt | hge
        · exact hlt
        · unfold World.cell? at a0
          rw [Array.getElem?_eq_none hge] at a0
          cases a0
      exact ⟨b, o, kd, nn, rfl, hb, a0, a1, w1⟩


section
variable {w w' : World} {g cp n : Nat} {s : St} {T : Nat → List Nat} {Q : Nat → Qg} {b t t' : Nat}
/-- A row of places takes another block: the document's lists keep off it. -/
theorem Rf.move (h : Rf w ⟨b, t⟩ g cp n s T Q) (hk : Kb ⟨b, t⟩ w w') (ht : t' = t ∨ w.heap.size ≤ t') : Rf w' ⟨b, t'⟩ g cp n s T Q := by
  have h' := h.keep hk
  have sg : ∀ {A xs}, Sg w ⟨b, t⟩ A xs → Sg w' ⟨b, t'⟩ A xs := fun hs j x hx => by
    obtain ⟨bb, o, e, h1, h2, h3⟩ := hs j x hx
    refine ⟨bb, o, e, ⟨h1.1, ?_⟩, Nat.lt_of_lt_of_le h2 hk.1, (hk.cell h1 h2).trans h3⟩
    have h4 := h1.2
    dsimp only at h4 ⊢
    omega
  refine ⟨⟨h.ge.1, ?_⟩, h'.lt, h.cap, h.small, h'.cells, fun i hi => ⟨sg (h.ok i hi).free, sg (h.ok i hi).taken, (h.ok i hi).l1, (h.ok i hi).l2, (h.ok i hi).z1, (h.ok i hi).z2⟩⟩
  have h4 := h.ge.2
  have h5 := h.lt
  dsimp only at h4 ⊢
  omega
theorem Tl.start : Tl st0 (fun _ => []) := ⟨fun i a => ⟨fun h => (nomatch h), fun h => by have := h.1; simp [st0, blks_zero] at this⟩, fun _ => List.nodup_nil, fun i => (cnt_none fun j _ => by unfold tk st0; simp).symm⟩
theorem alE_cases (n : Nat) (s : St) (size : Int) : alE n s size = 0 ∨ (alE n s size ≠ 0 ∧ alE n s size ≤ 5 ∧ 0 ≤ alE n s size) := by
  unfold alE
  cases alOk size with
  | false => exact .inr (by simp)
  | true =>
    simp only [if_true]
    cases alP n s size with
    | none => exact .inr (by simp)
    | some _ => exact .inl rfl
end
end Go.Proofs.YthblpnnbkjhmhaaDoor
