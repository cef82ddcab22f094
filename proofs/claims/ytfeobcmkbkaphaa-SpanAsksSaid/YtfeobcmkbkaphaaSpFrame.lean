/- More words for the laws of spans: the frame of a law, its parameters first, the newest block last. No condition. -/
import Derived.Test.YtfeobcmkbkaphaaSpShown
import Derived.Test.YtfeobcmkbkaphaaSpOpen
namespace Go.Proofs.Ytfeobcmkbkaphaa
open Go.RowKit
set_option maxRecDepth 100000
set_option maxHeartbeats 4000000
section
variable {w : World}
theorem Fr.put {w W : World} : ∀ {l : List (Nat × Nat × Nat)}, Fr w W l → ∀ a b : Nat, Fr w (W.alloc (.cells #[.int .u64 (a : Int), .int .u64 (b : Int)] 24)) (l ++ [(W.heap.size, a, b)])
  | [], h, a, b => Fr.new h a b
  | _ :: _, h, a, b => ⟨h.1.alloc _, Fr.put h.2 a b⟩
theorem Fr.p2 (w : World) (a b c d : Nat) : Fr w ((w.alloc (.cells #[.int .u64 (a : Int), .int .u64 (b : Int)] 24)).alloc (.cells #[.int .u64 (c : Int), .int .u64 (d : Int)] 24)) [(w.heap.size, a, b), (w.heap.size + 1, c, d)] := by
  have h := ((Fr.nil w).put a b).put c d
  simpa using h
theorem Fr.p3 (w : World) (a b c d e f : Nat) : Fr w (((w.alloc (.cells #[.int .u64 (a : Int), .int .u64 (b : Int)] 24)).alloc (.cells #[.int .u64 (c : Int), .int .u64 (d : Int)] 24)).alloc (.cells #[.int .u64 (e : Int), .int .u64 (f : Int)] 24)) [(w.heap.size, a, b), (w.heap.size + 1, c, d), (w.heap.size + 1 + 1, e, f)] := by
  have h := (Fr.p2 w a b c d).put e f
  simpa using h
theorem Fr.p4 (w : World) (a b c d e f g h : Nat) : Fr w ((((w.alloc (.cells #[.int .u64 (a : Int), .int .u64 (b : Int)] 24)).alloc (.cells #[.int .u64 (c : Int), .int .u64 (d : Int)] 24)).alloc (.cells #[.int .u64 (e : Int), .int .u64 (f : Int)] 24)).alloc (.cells #[.int .u64 (g : Int), .int .u64 (h : Int)] 24)) [(w.heap.size, a, b), (w.heap.size + 1, c, d), (w.heap.size + 1 + 1, e, f), (w.heap.size + 1 + 1 + 1, g, h)] := by
  have h := (Fr.p3 w a b c d e f).put g h
  simpa using h
theorem sdE_0 {op : Int} {s t : Sp} (h : 1 ≤ op ∧ op ≤ 11) (ms : mayV s = true) (mt : mayV t = true) : sdE op s t = 0 := by
  unfold sdE
  rw [ms, mt]
  show doE op = 0
  unfold doE
  rw [if_pos h]
end
end Go.Proofs.Ytfeobcmkbkaphaa
