/- The contract of the document's examples ('shown'). Condition: Not's table lies in its block. -/
import Derived.Test.YticgehmpfgdbhaaDoorBrRefine
namespace Go.Proofs.YticgehmpfgdbhaaDoor
open Go.RowKit
set_option maxRecDepth 100000
set_option maxHeartbeats 4000000
section
variable {w : World}
abbrev T8 (W : World) (g h i j : Nat) (a b c d e f k l : Int) : Prop :=
  W.cell? ⟨g, 0, none⟩ = some (.int .u64 a) ∧ W.cell? ⟨g, 1, none⟩ = some (.int .u64 b) ∧ W.cell? ⟨h, 0, none⟩ = some (.int .u64 c) ∧ W.cell? ⟨h, 1, none⟩ = some (.int .u64 d) ∧
  W.cell? ⟨i, 0, none⟩ = some (.int .u64 e) ∧ W.cell? ⟨i, 1, none⟩ = some (.int .u64 f) ∧ W.cell? ⟨j, 0, none⟩ = some (.int .u64 k) ∧ W.cell? ⟨j, 1, none⟩ = some (.int .u64 l)
theorem Fr.t8 {w W : World} {g h i j g2 a b c d e f k l e2 f2 : Nat} {r : List (Nat × Nat × Nat)} (F : Fr w W ((g, a, b) :: (h, c, d) :: (i, e, f) :: (g2, e2, f2) :: (j, k, l) :: r)) : T8 W g h i j a b c d e f k l :=
  ⟨F.q1.1, F.q1.2, F.2.q1.1, F.2.q1.2, F.2.2.q1.1, F.2.2.q1.2, F.2.2.2.2.q1.1, F.2.2.2.2.q1.2⟩
theorem okb {a b : Nat} (h : a < 18446744073709551616) (k : b < 18446744073709551616) : (⟨a, b⟩ : Sp).ok := ⟨h, k⟩
theorem shown_any (T : Hid (Nots w)) : Ans 9 #[] (.bool true) w := by
  have R1 : Hid (∀ W, Hid (Nots W) → Ans 10 #[.int .i64 3, .agg #[.int .u64 0, .int .u64 100], .agg #[.int .u64 8, .int .u64 8], .bool true] (.tuple #[.agg #[.int .u64 0, .int .u64 7], .agg #[.int .u64 8, .int .u64 8], .bool true, .int .i64 0]) W) := Lib.hid (fun W TW => by
    have h := refine_any (w := W) 3 ⟨0, 100⟩ ⟨8, 8⟩ true (okb (by decide) (by decide)) (okb (by decide) (by decide)) TW
    rw [show br 3 ⟨0, 100⟩ ⟨8, 8⟩ true = ⟨⟨0, 7⟩, ⟨8, 8⟩, true⟩ by decide +kernel, show brE 3 ⟨0, 100⟩ ⟨8, 8⟩ = 0 by decide +kernel] at h
    exact h)
  have R2 : Hid (∀ W, Hid (Nots W) → Ans 10 #[.int .i64 3, .agg #[.int .u64 0, .int .u64 100], .agg #[.int .u64 8, .int .u64 8], .bool false] (.tuple #[.agg #[.int .u64 8, .int .u64 100], .agg #[.int .u64 8, .int .u64 8], .bool true, .int .i64 0]) W) := Lib.hid (fun W TW => by
    have h := refine_any (w := W) 3 ⟨0, 100⟩ ⟨8, 8⟩ false (okb (by decide) (by decide)) (okb (by decide) (by decide)) TW
    rw [show br 3 ⟨0, 100⟩ ⟨8, 8⟩ false = ⟨⟨8, 100⟩, ⟨8, 8⟩, true⟩ by decide +kernel, show brE 3 ⟨0, 100⟩ ⟨8, 8⟩ = 0 by decide +kernel] at h
    exact h)
  have R3 : Hid (∀ W, Hid (Nots W) → Ans 10 #[.int .i64 2, .agg #[.int .u64 0, .int .u64 9], .agg #[.int .u64 0, .int .u64 0], .bool true] (.tuple #[.agg #[.int .u64 1, .int .u64 9], .agg #[.int .u64 0, .int .u64 0], .bool true, .int .i64 0]) W) := Lib.hid (fun W TW => by
    have h := refine_any (w := W) 2 ⟨0, 9⟩ ⟨0, 0⟩ true (okb (by decide) (by decide)) (okb (by decide) (by decide)) TW
    rw [show br 2 ⟨0, 9⟩ ⟨0, 0⟩ true = ⟨⟨1, 9⟩, ⟨0, 0⟩, true⟩ by decide +kernel, show brE 2 ⟨0, 9⟩ ⟨0, 0⟩ = 0 by decide +kernel] at h
    exact h)
  have R4 : Hid (∀ W, Hid (Nots W) → Ans 10 #[.int .i64 1, .agg #[.int .u64 1, .int .u64 2], .agg #[.int .u64 3, .int .u64 4], .bool true] (.tuple #[.agg #[.int .u64 0, .int .u64 0], .agg #[.int .u64 0, .int .u64 0], .bool false, .int .i64 0]) W) := Lib.hid (fun W TW => by
    have h := refine_any (w := W) 1 ⟨1, 2⟩ ⟨3, 4⟩ true (okb (by decide) (by decide)) (okb (by decide) (by decide)) TW
    rw [show br 1 ⟨1, 2⟩ ⟨3, 4⟩ true = ⟨⟨0, 0⟩, ⟨0, 0⟩, false⟩ by decide +kernel, show brE 1 ⟨1, 2⟩ ⟨3, 4⟩ = 0 by decide +kernel] at h
    exact h)
  have O8 : Hid (∀ W, Ans 16 #[.int .u64 8] (.agg #[.int .u64 8, .int .u64 8]) W) := Lib.hid (fun W => of_any (w := W) 8)
  have O0 : Hid (∀ W, Ans 16 #[.int .u64 0] (.agg #[.int .u64 0, .int .u64 0]) W) := Lib.hid (fun W => of_any (w := W) 0)
  go_enter Tryd.func9, Tryd.ntmps9
  go_wp2_with (first
    | (go_at_call 16; (with_reducible refine (O8.out _).mono ?_); rintro e wc ⟨rfl, hbc⟩; have FC := Lib.hid ((Fr.nil w).step hbc); clear hbc)
    | (go_at_call 10; (with_reducible refine (R1.out _ (Lib.hid (T.out.below FC.out.below T.out.lt))).mono ?_); rintro e w1 ⟨rfl, hbc⟩; have FC := Lib.hid (FC.out.step hbc); clear hbc)
    | (go_at_call 16; (with_reducible refine (O8.out _).mono ?_); rintro e wc ⟨rfl, hbc⟩; have FC := Lib.hid ((FC.out.put2 0 7 8 8).step hbc); clear hbc)
    | (go_at_call 10; (with_reducible refine (R2.out _ (Lib.hid (T.out.below FC.out.below T.out.lt))).mono ?_); rintro e w2 ⟨rfl, hbc⟩; have FC := Lib.hid (FC.out.step hbc); clear hbc)
    | (go_at_call 16; (with_reducible refine (O0.out _).mono ?_); rintro e wc ⟨rfl, hbc⟩; have FC := Lib.hid ((FC.out.put2 8 100 8 8).step hbc); clear hbc)
    | (go_at_call 10; (with_reducible refine (R3.out _ (Lib.hid (T.out.below FC.out.below T.out.lt))).mono ?_); rintro e w3 ⟨rfl, hbc⟩; have FC := Lib.hid (FC.out.step hbc); clear hbc)
    | (go_at_call 10; (have FC := Lib.hid (FC.out.put2 1 9 0 0)); (refine (R4.out _ (Lib.hid (T.out.below FC.out.below T.out.lt))).mono ?_); rintro e w4 ⟨rfl, hbc⟩; have FC := Lib.hid (FC.out.step hbc); clear hbc))
  have FC := Lib.hid (FC.out.put2 0 0 0 0).drew
  have SC : Hid (T8 ((w4.alloc (.cells #[.int .u64 0, .int .u64 0] 24)).alloc (.cells #[.int .u64 0, .int .u64 0] 24)).drew w1.heap.size (w1.heap.size + 1) w2.heap.size w3.heap.size 0 7 8 8 8 100 1 9) := Lib.hid FC.out.t8
  go_region_held3 (fun w' => T8 w' w1.heap.size (w1.heap.size + 1) w2.heap.size w3.heap.size 0 7 8 8 8 100 1 9) (first | (with_reducible exact SC.out) | (with_reducible exact SD.out) | go_keep) (first | (go_at_call 16; (with_reducible refine (O8.out _).mono ?_); rintro e w5 ⟨rfl, hbc⟩; have FC := Lib.hid (FC.out.step hbc); have SD : Hid (T8 w5 w1.heap.size (w1.heap.size + 1) w2.heap.size w3.heap.size 0 7 8 8 8 100 1 9) := Lib.hid FC.out.t8; clear hbc))
  all_goals
    go_wp2_with fail
    go_ret
    exact ⟨rfl, FC.out.below⟩
end
end Go.Proofs.YticgehmpfgdbhaaDoor
