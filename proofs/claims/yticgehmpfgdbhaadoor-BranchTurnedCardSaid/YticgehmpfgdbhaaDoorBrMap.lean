/- The map of the conditions that are others turned about: what the call makes of it, and what is looked up. No condition. -/
import Derived.Test.YticgehmpfgdbhaaDoorSpFr
import Derived.Maps.OwnSet
import Derived.Maps.Views
namespace Go.Proofs.YticgehmpfgdbhaaDoor
open Go.RowKit Go.Maps Go.WideMaps
set_option maxRecDepth 100000
theorem lawInt : Keyed Tryd.prog 3 := int_keyed Tryd.underlying3
theorem zeroInt (w : World) : (zeroValue 3).run Tryd.prog w = .ok (.int .i64 0) w := by kernel_rfl
def kI (n : Int) : Lit := .int .i64 n
theorem kI_key (n : Int) : WideAt.IsKeyLit (kI n) := by unfold kI; simp [WideAt.IsKeyLit]
theorem kI_ne {a b : Int} (h : a ≠ b) : kI a ≠ kI b := fun e => h (by unfold kI at e; injection e)
theorem kI_of {n : Int} (h : (Lit.int .i64 n).wf = true) : keyOf Tryd.prog 3 (.int .i64 n) = some (kI n) := keyOf_int_mk Tryd.underlying3 h
def dI9 (n : Int) : DataW Unit := .lit (.int .i64 n)
def mp2 : DataW Unit := ((DataW.map []).put (kI 5) (dI9 3)).put (kI 6) (dI9 4)
/-- What the map says of n. -/
def ask (n m : Int) (o : Bool) : Prop := (n = 5 ∧ m = 3 ∧ o = true) ∨ (n = 6 ∧ m = 4 ∧ o = true) ∨ (n ≠ 5 ∧ n ≠ 6 ∧ m = 0 ∧ o = false)
theorem mp2_at (n m : Int) (o : Bool) (h : ask n m o) : Maps.has mp2 (kI n) = o ∧ mp2.atKey (kI n) (dI9 0) = dI9 m := by
  have m0 : IsMap (DataW.map [] : DataW Unit) := isMap_empty
  have m1 : IsMap ((DataW.map [] : DataW Unit).put (kI 5) (dI9 3)) := m0.put _ _
  unfold mp2
  rcases h with ⟨rfl, rfl, rfl⟩ | ⟨rfl, rfl, rfl⟩ | ⟨h5, h6, rfl, rfl⟩
  · rw [has_put_other (kI_ne (by decide)), has_put_same m0 (kI_key 5), atKey_put_other (kI_ne (by decide)), atKey_put_same m0 (kI_key 5)]
    exact ⟨rfl, rfl⟩
  · rw [has_put_same m1 (kI_key 6), atKey_put_same m1 (kI_key 6)]
    exact ⟨rfl, rfl⟩
  · rw [has_put_other (kI_ne h6), has_put_other (kI_ne h5), atKey_put_other (kI_ne h6), atKey_put_other (kI_ne h5)]
    exact ⟨rfl, rfl⟩
theorem below_map {w w1 w2 : World} (h1 : (w.alloc (.map #[] 0)).grownBy w1 (some w.heap.size)) (h2 : w1.grownBy w2 (some w.heap.size)) : Below w.heap.size w w2 := by
  have h0 : Below w.heap.size w (w.alloc (.map #[] 0)) := by go_grown
  have s0 := h0.size
  have s1 := h1.size
  have k1 : Below w.heap.size (w.alloc (.map #[] 0)) w1 := ⟨h1.os, h1.tape, h1.output, h1.size, fun i hi => h1.block i (by omega) (by simp; omega)⟩
  have k2 : Below w.heap.size w1 w2 := ⟨h2.os, h2.tape, h2.output, h2.size, fun i hi => h2.block i (by omega) (by simp; omega)⟩
  exact (h0.trans k1).trans k2
/-- The map is made, its two entries are laid, a number is looked up. -/
theorem map_ready (w : World) (n m : Int) (o : Bool) (hn : (Lit.int .i64 n).wf = true) (h : ask n m o) :
    ∃ w1 w2, (Instr.mapUpdate 44 (.map (some w.heap.size)) (.int .i64 5) (.int .i64 3)).run Tryd.prog (w.alloc (.map #[] 0)) = .ok () w1 ∧ (Instr.mapUpdate 44 (.map (some w.heap.size)) (.int .i64 6) (.int .i64 4)).run Tryd.prog w1 = .ok () w2
      ∧ (Instr.lookup 44 (.map (some w.heap.size)) (.int .i64 n) true).run Tryd.prog w2 = .ok (.tuple #[.int .i64 m, .bool o]) w2 ∧ Below w.heap.size w w2 := by
  have O0 := World.ownsMap_made w Tryd.prog 3 (plainElem (H := Unit) Tryd.prog 3)
  obtain ⟨w1, r1, O1, g1⟩ := O0.update lawInt Tryd.underlying44 (by decide) (kI_of (n := 5) (by decide)) (plainElem_int (a := 3) Tryd.underlying3 (by decide))
  obtain ⟨w2, r2, O2, g2⟩ := O1.update lawInt Tryd.underlying44 (by decide) (kI_of (n := 6) (by decide)) (plainElem_int (a := 4) Tryd.underlying3 (by decide))
  obtain ⟨v, ps, r3, hv⟩ := O2.look_ok lawInt Tryd.underlying44 (zeroInt w2) (plainElem_int (a := 0) Tryd.underlying3 (by decide)) (kI_of hn)
  have ⟨e1, e2⟩ := mp2_at n m o h
  have hv' : plainElem (H := Unit) Tryd.prog 3 v = some (mp2.atKey (kI n) (dI9 0), ps) := hv
  rw [e2] at hv'
  obtain ⟨c, rfl, hc, -⟩ := plainElem_int_inv Tryd.underlying3 hv'
  simp only [dI9, Prod.mk.injEq, DataW.lit.injEq, Lit.int.injEq, true_and] at hc
  obtain ⟨rfl, -⟩ := hc
  have r3' : (Instr.lookup 44 (.map (some w.heap.size)) (.int .i64 n) true).run Tryd.prog w2 = .ok (.tuple #[.int .i64 m, .bool (Maps.has mp2 (kI n))]) w2 := r3
  rw [e1] at r3'
  exact ⟨w1, w2, r1, r2, r3', below_map g1 g2⟩
end Go.Proofs.YticgehmpfgdbhaaDoor
