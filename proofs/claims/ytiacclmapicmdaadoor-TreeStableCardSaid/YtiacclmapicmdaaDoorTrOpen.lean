/- Keys as a law is handed them; the tree that they make in their order. Condition: the table of widths lies in its block. -/
import Derived.Test.YtiacclmapicmdaaDoorTrShown
import Derived.Deep.Slices
import Derived.ChangeArms
import Derived.ProofKit
import Derived.OpenShut
namespace Go.Proofs.YtiacclmapicmdaaDoor
open Go.RowKit Go.Deep
open Go.ChangeShapes Go.WideShapes Go.ChangeAt

/-- A slice of keys that is handed in. -/
def Keys (w : World) (A : Option Addr) (len cap : Nat) : Prop := (∃ xs : List Nat, xs.length = len ∧ Kz w A xs) ∧ len ≤ cap
theorem list_of {P : Nat → Nat → Prop} : ∀ n, (∀ i, i < n → ∃ x, P i x) → ∃ xs : List Nat, xs.length = n ∧ ∀ i x, xs[i]? = some x → P i x
  | 0, _ => ⟨[], rfl, fun i x h => by simp at h⟩
  | n + 1, h => by
    obtain ⟨xs, h1, h2⟩ := list_of n fun i hi => h i (by omega)
    obtain ⟨y, hy⟩ := h n (by omega)
    refine ⟨xs ++ [y], by simp [h1], fun i x hx => ?_⟩
    by_cases hi : i < n
    · rw [List.getElem?_append_left (by omega)] at hx
      exact h2 i x hx
    · rw [List.getElem?_append_right (by omega), h1] at hx
      have e : i = n := by
        have := (List.getElem?_eq_some_iff.1 hx).1
        simp at this
        omega
      subst e
      simp at hx
      exact hx ▸ hy
theorem cells64 : Tryd.prog.cellsOf 52 = 1 := by kernel_rfl
theorem keys_of {H : Type} {enc : TypeId × Value → H} {W : World} {base : Nat} {sp : Nat → Bool} {held : Bool} {fuel : Nat} {A : Option Addr} {len cap : Nat} {x : DataW H × List MemPlace}
    (h : DataW.trod enc Tryd.prog W base sp held fuel 22 (Value.cells (.slice A len cap)).toList = some x) : Keys W A len cap ∧ len ≤ 9223372036854775807 := by
  rcases open_slice Tryd.underlying22 h with ⟨h0, _⟩ | ⟨a, l, c, m, n, D, Pl, hcs, _, hl, hm, hmm, _, hi⟩
  · simp [Value.cells] at h0
    obtain ⟨rfl, rfl, rfl⟩ := h0
    exact ⟨⟨⟨[], rfl, fun i x hx => by simp at hx⟩, Nat.le_refl _⟩, by omega⟩
  · simp [Value.cells] at hcs
    obtain ⟨rfl, rfl, rfl⟩ := hcs
    have hlen9 : len ≤ 9223372036854775807 := by
      have : len ≤ maxLen := by omega
      unfold maxLen at this
      omega
    refine ⟨⟨list_of (P := fun i x => ∃ b o, some a = some ⟨b, o, none⟩ ∧ b < W.heap.size ∧ W.cell? ⟨b, o + i, none⟩ = some (.int .u64 (x : Nat)) ∧ x < 18446744073709551616) len fun i hil => ?_, hl⟩, hlen9⟩
    have hlm : len ≤ m := by rw [hmm]; split <;> omega
    rw [cells64] at hi
    obtain ⟨cs0, hc0, _⟩ := hi 0 (by omega)
    obtain ⟨_, hl0, hat0⟩ := World.cells?_some hc0
    obtain ⟨b, o, spot⟩ := a
    have hspot : spot = none := by
      have h1 := hat0 0 (by omega)
      rw [List.getElem?_eq_getElem (show 0 < cs0.length by omega)] at h1
      simpa [Addr.add] using World.cell?_spot h1
    subst hspot
    obtain ⟨cs, hc, hd⟩ := hi i (by omega)
    obtain ⟨_, hcl, hat⟩ := World.cells?_some hc
    obtain ⟨v, e0, _, w1⟩ := DataW.trod_int Tryd.underlying52 hd
    subst e0
    have a0 := hat 0 (by simp)
    simp at a0
    have ea : Addr.add (Addr.add ⟨b, o, none⟩ i) 0 = ⟨b, o + i, none⟩ := by
      unfold Addr.add
      by_cases h1 : i = 0 <;> simp [h1]
    rw [ea] at a0
    have hb : b < W.heap.size := by
      rcases Nat.lt_or_ge b W.heap.size with hlt | hge
      · exact hlt
      · unfold World.cell? at a0
        rw [Array.getElem?_eq_none hge] at a0
        cases a0
    have hv := bounds_u64 w1
    refine ⟨v.toNat, b, o, rfl, hb, ?_, by omega⟩
    rw [show ((v.toNat : Nat) : Int) = v by omega]
    exact a0
theorem Kz.take {w : World} {A : Option Addr} {xs : List Nat} (k : Kz w A xs) (n : Nat) : Kz w A (xs.take n) := fun i x hx => by
  rw [List.getElem?_take] at hx
  split at hx
  · exact k i x hx
  · cases hx
/-- Leaves added in their order. -/
def bld (key : Nat → Nat) : Nat → T
  | 0 => .e
  | i + 1 => addT key (i + 1) (bld key i)
theorem bld_mem (key : Nat → Nat) : ∀ i j, j ∈ (bld key i).ns ↔ 1 ≤ j ∧ j ≤ i
  | 0, j => by simp [bld, T.ns]; omega
  | i + 1, j => by
    rw [bld, addT_mem, bld_mem key i j]
    omega
theorem bld_len (key : Nat → Nat) : ∀ i, (bld key i).ns.length = i
  | 0 => rfl
  | i + 1 => by rw [bld, addT_len, bld_len key i]
theorem bld_stb (key : Nat → Nat) : ∀ i, Stb key (bld key i).ns
  | 0 => List.Pairwise.nil
  | i + 1 => by
    rw [bld]
    exact addT_stb (bld_stb key i) fun j hj => by have := (bld_mem key i j).1 hj; omega
theorem bld_nodup (key : Nat → Nat) : ∀ i, (bld key i).ns.Nodup
  | 0 => List.nodup_nil
  | i + 1 => by
    rw [bld]
    exact addT_nodup (bld_nodup key i) fun hj => by have := (bld_mem key i _).1 hj; omega
theorem empty_of {t : T} (h : t.ns.length = 0) : t = .e := by
  cases t with
  | e => rfl
  | n => simp [T.ns] at h
theorem fst_of {t : T} {x : Nat} {L : List Nat} (h : t.ns = x :: L) : fst t = x := by
  obtain ⟨L', h2⟩ := root_fst (t := t) (by
    cases t with
    | e => cases h
    | n => rfl)
  rw [h] at h2
  exact (List.cons.inj h2).1.symm
theorem Fg.kx {g b0 : Nat} {w w' : World} (h : Fg g w w') : Kx ⟨b0, g⟩ w w' := ⟨h.size, fun k ⟨_, hk⟩ hlt => h.block k hlt hk⟩
end Go.Proofs.YtiacclmapicmdaaDoor
