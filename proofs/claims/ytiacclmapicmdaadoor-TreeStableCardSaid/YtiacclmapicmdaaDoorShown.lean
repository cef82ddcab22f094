/- The contract of the document's examples ('shown'): it returns true, and nothing that was there has turned. Condition: the table of widths lies in its block. -/
import Derived.Test.YtiacclmapicmdaaDoorCalls
namespace Go.Proofs.YtiacclmapicmdaaDoor
open Go.RowKit

section
variable {w : World}
theorem new16 : Calls Tryd.prog 32 #[.int .i64 16] w fun e w' => e = .returned (.tuple #[.pointer (some ⟨w.heap.size + 1, 0, none⟩), .int .i64 0]) ∧ Ar w' (w.heap.size + 1) w.heap.size 16 (fun _ => 0) ∧ w'.heap.size = w.heap.size + 2 ∧ Below w.heap.size w w' :=
  new_ok 16 (by decide)
theorem store44 (p g : Nat) (f : Nat → Int) (hT : Tab w) (h : Ar w p g 16 f) : Calls Tryd.prog 27 #[.pointer (some ⟨p, 0, none⟩), .int .i64 4, .int .i64 4, .int .u64 305419896] w fun e w' => e = .returned (.int .i64 0) ∧ Ar w' p g 16 (st f 4 305419896 4) ∧ Only g w w' :=
  store_ok p g 16 f 4 4 305419896 hT h (by decide) (by decide) (by decide)
theorem bytes44 (p g : Nat) (f : Nat → Int) (h : Ar w p g 16 f) : Calls Tryd.prog 28 #[.pointer (some ⟨p, 0, none⟩), .int .i64 4, .int .i64 4] w fun e w' =>
      e = .returned (.tuple #[.slice (some ⟨w.heap.size, 0, none⟩) 4 4, .int .i64 0]) ∧ Blk w' w.heap.size 5 (row 4 fun i => f (4 + i)) ∧ Below w.heap.size w w' :=
  bytes_ok p g 16 f 4 4 h (by decide)
theorem load42 (p g : Nat) (f : Nat → Int) (hT : Tab w) (h : Ar w p g 16 f) : Calls Tryd.prog 26 #[.pointer (some ⟨p, 0, none⟩), .int .i64 4, .int .i64 2] w fun e w' => e = .returned (.tuple #[.int .u64 (ld f 4 2), .int .i64 0]) ∧ w = w' :=
  load_ok p g 16 f 4 2 hT h (by decide) (by decide)
theorem load152 (p g : Nat) (f : Nat → Int) (hT : Tab w) (h : Ar w p g 16 f) : Calls Tryd.prog 26 #[.pointer (some ⟨p, 0, none⟩), .int .i64 15, .int .i64 2] w fun e w' => e = .returned (.tuple #[.int .u64 0, .int .i64 4]) ∧ w = w' :=
  load_far _ _ 16 15 2 hT h.mem (by decide) (by decide) (by decide)
theorem load03 (p : Nat) (hT : Tab w) : Calls Tryd.prog 26 #[.pointer (some ⟨p, 0, none⟩), .int .i64 0, .int .i64 3] w fun e w' => e = .returned (.tuple #[.int .u64 0, .int .i64 1]) ∧ w = w' :=
  load_arg _ 0 3 hT (by decide)

end
end Go.Proofs.YtiacclmapicmdaaDoor
