/- More words for spans: the frame with the newest block last, the cells of both arguments. No condition. -/
import Derived.Test.YticgehmpfgdbhaaDoorSpSmall
namespace Go.Proofs.YticgehmpfgdbhaaDoor
open Go.RowKit
set_option maxRecDepth 100000
set_option maxHeartbeats 4000000
section
variable {w : World}
theorem Fr.put {w W : World} : ∀ {l : List (Nat × Nat × Nat)}, Fr w W l → ∀ a b : Nat, Fr w (W.alloc (.cells #[.int .u64 (a : Int), .int .u64 (b : Int)] 24)) (l ++ [(W.heap.size, a, b)])
  | [], h, a, b => Fr.new h a b
  | _ :: _, h, a, b => ⟨h.1.alloc _, Fr.put h.2 a b⟩
theorem Fr.p2 (w : World) (a b c d : Nat) : Fr w ((w.alloc (.cells #[.int .u64 (a : Int), .int .u64 (b : Int)] 24)).alloc (.cells #[.int .u64 (c : Int), .int .u64 (d : Int)] 24)) [(w.heap.size, a, b), (w.heap.size + 1, c, d)] := by
  have h := ((Fr.nil w).put a b).put c d
  simpa using h
theorem Fr.p3 (w : World) (a b c d e f : Nat) : Fr w (((w.alloc (.cells #[.int .u64 (a : Int), .int .u64 (b : Int)] 24)).alloc (.cells #[.int .u64 (c : Int), .int .u64 (d : Int)] 24)).alloc (.cells #[.int .u64 (e : Int), .int .u64 (f : Int)] 24)) [(w.heap.size, a, b), (w.heap.size + 1, c, d), (w.heap.size + 1 + 1, e, f)] := by
  have h := (Fr.p2 w a b c d).put e f
  simpa using h
theorem Fr.p4 (w : World) (a b c d e f g h : Nat) : Fr w ((((w.alloc (.cells #[.int .u64 (a : Int), .int .u64 (b : Int)] 24)).alloc (.cells #[.int .u64 (c : Int), .int .u64 (d : Int)] 24)).alloc (.cells #[.int .u64 (e : Int), .int .u64 (f : Int)] 24)).alloc (.cells #[.int .u64 (g : Int), .int .u64 (h : Int)] 24)) [(w.heap.size, a, b), (w.heap.size + 1, c, d), (w.heap.size + 1 + 1, e, f), (w.heap.size + 1 + 1 + 1, g, h)] := by
  have h := (Fr.p3 w a b c d e f).put g h
  simpa using h
/-- The cells of both arguments. -/
abbrev S6 (W : World) (g : Nat) (a b c d : Int) : Prop := W.cell? ⟨g, 0, none⟩ = some (.int .u64 a) ∧ W.cell? ⟨g, 1, none⟩ = some (.int .u64 b) ∧ W.cell? ⟨g + 1, 0, none⟩ = some (.int .u64 c) ∧ W.cell? ⟨g + 1, 1, none⟩ = some (.int .u64 d)
/-- The cells of both arguments, as the frame tells them. -/
theorem Fr.s6 {w W : World} {a b c d : Nat} {l : List (Nat × Nat × Nat)} (h : Fr w W ((w.heap.size, a, b) :: (w.heap.size + 1, c, d) :: l)) : S6 W w.heap.size a b c d :=
  ⟨h.q1.1, h.q1.2, h.2.q1.1, h.2.q1.2⟩
theorem Fr.s7 {w W : World} {a b c d : Nat} {l : List (Nat × Nat × Nat)} (h : Fr w W ((w.heap.size, a, b) :: (w.heap.size + 1, c, d) :: l)) (u0 u1 : Value) : S6 ((W.setCell ⟨w.heap.size + 1 + 1, 0, none⟩ u0).setCell ⟨w.heap.size + 1 + 1, 1, none⟩ u1) w.heap.size a b c d := by
  have k1 := (h.1.only (Only.setCellAt W (w.heap.size + 1 + 1) 0 u0) (by omega)).only (Only.setCellAt _ (w.heap.size + 1 + 1) 1 u1) (by omega)
  have k2 := (h.2.1.only (Only.setCellAt W (w.heap.size + 1 + 1) 0 u0) (by omega)).only (Only.setCellAt _ (w.heap.size + 1 + 1) 1 u1) (by omega)
  exact ⟨(two k1).1, (two k1).2, (two k2).1, (two k2).2⟩
end
end Go.Proofs.YticgehmpfgdbhaaDoor
