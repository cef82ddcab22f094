/- The walk of BranchTurned: it returns true, and nothing that was there has turned. Conditions: the numbers have at most 64 bits; Not's table lies in its block. -/
import Derived.Test.YticgehmpfgdbhaaDoorBrShown
import Derived.Test.YticgehmpfgdbhaaDoorSpOpen
import Derived.Deep.CutRange
namespace Go.Proofs.YticgehmpfgdbhaaDoor
open Go.RowKit
set_option maxRecDepth 100000
set_option maxHeartbeats 4000000
section
variable {w : World}
abbrev S9 (W : World) (g g1 j : Nat) (n : Int) (a b c d : Nat) : Prop := S6 W g a b c d ∧ W.cell? ⟨g1, j, none⟩ = some (.int .i64 n)
theorem Blk.fl0 {w : World} {g : Nat} {t : TypeId} {x y : Value} (h : Blk w g t #[x, y]) : ∀ o, (w.alloc o).frozen? ⟨g, 0, none⟩ = false := fun o => (ice (h.alloc o)).1
theorem Blk.fl1 {w : World} {g : Nat} {t : TypeId} {x y : Value} (h : Blk w g t #[x, y]) : ∀ o, (w.alloc o).frozen? ⟨g, 1, none⟩ = false := fun o => (ice (h.alloc o)).2
theorem Fr.putz {W : World} {l : List (Nat × Nat × Nat)} (h : Fr w W l) : Fr w (W.drew.alloc (.cells #[.int .u64 0, .int .u64 0] 24)) (l ++ [(W.heap.size, 0, 0)]) := h.drew.put 0 0
theorem Fr.put2y {W : World} {l : List (Nat × Nat × Nat)} (h : Fr w W l) : Fr w ((W.drew.alloc (.cells #[.int .u64 0, .int .u64 0] 24)).alloc (.cells #[.int .u64 0, .int .u64 0] 24)) (l ++ [(W.heap.size, 0, 0), (W.heap.size + 1, 0, 0)]) := h.drew.put2 0 0 0 0
theorem new_set (w : World) (c : Array Value) (t : TypeId) (k : Nat) (ne : ¬ k = w.heap.size) (u0 u1 : Value) : Blk (((w.alloc (.cells c t)).setCell ⟨k, 0, none⟩ u0).setCell ⟨k, 1, none⟩ u1) w.heap.size t c :=
  ((Blk.new _ _ _).only (Only.setCellAt _ _ 0 _) (fun e => ne e.symm)).only (Only.setCellAt _ _ 1 _) (fun e => ne e.symm)
theorem new2 (w : World) (c1 c2 : Array Value) (t1 t2 : TypeId) : Blk ((w.alloc (.cells c1 t1)).alloc (.cells c2 t2)) (w.heap.size + 1) t2 c2 := by
  have h := Blk.new (w.alloc (.cells c1 t1)) t2 c2
  simpa using h
theorem Fr.two {W : World} : ∀ {l : List (Nat × Nat × Nat)}, Fr w W l → ∀ {i j x y z v : Nat}, Blk W i 24 #[.int .u64 (x : Int), .int .u64 (y : Int)] → Blk W j 24 #[.int .u64 (z : Int), .int .u64 (v : Int)] → Fr w W (l ++ [(i, x, y), (j, z, v)])
  | [], h, _, _, _, _, _, _, a, b => ⟨a, b, h⟩
  | _ :: _, h, _, _, _, _, _, _, a, b => ⟨h.1, Fr.two h.2 a b⟩
end
end Go.Proofs.YticgehmpfgdbhaaDoor
