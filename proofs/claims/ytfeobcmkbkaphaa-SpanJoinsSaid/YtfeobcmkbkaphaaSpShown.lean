/- The contract of the document's examples ('shown'). No condition. -/
import Derived.Test.YtfeobcmkbkaphaaSpDo
namespace Go.Proofs.Ytfeobcmkbkaphaa
open Go.RowKit
set_option maxRecDepth 100000
set_option maxHeartbeats 4000000
section
variable {w : World}
theorem ok_of {a b : Nat} (h : a < 18446744073709551616) (k : b < 18446744073709551616) : (⟨a, b⟩ : Sp).ok := ⟨h, k⟩
abbrev S8 (W : World) (g h i j : Nat) (a b c d e f k l : Int) : Prop :=
  W.cell? ⟨g, 0, none⟩ = some (.int .u64 a) ∧ W.cell? ⟨g, 1, none⟩ = some (.int .u64 b) ∧ W.cell? ⟨h, 0, none⟩ = some (.int .u64 c) ∧ W.cell? ⟨h, 1, none⟩ = some (.int .u64 d) ∧
  W.cell? ⟨i, 0, none⟩ = some (.int .u64 e) ∧ W.cell? ⟨i, 1, none⟩ = some (.int .u64 f) ∧ W.cell? ⟨j, 0, none⟩ = some (.int .u64 k) ∧ W.cell? ⟨j, 1, none⟩ = some (.int .u64 l)
theorem Fr.s8 {w W : World} {g h i j a b c d e f k l : Nat} (F : Fr w W [(j, k, l), (i, e, f), (h, c, d), (g, a, b)]) : S8 W g h i j a b c d e f k l :=
  ⟨F.2.2.2.q1.1, F.2.2.2.q1.2, F.2.2.q1.1, F.2.2.q1.2, F.2.q1.1, F.2.q1.2, F.q1.1, F.q1.2⟩
theorem shown_any : Ans 11 #[] (.bool true) w := by
  have D1 : Hid (∀ W, Ans 23 #[.int .i64 1, .agg #[.int .u64 1, .int .u64 2], .agg #[.int .u64 10, .int .u64 20]] (.tuple #[.agg #[.int .u64 11, .int .u64 22], .int .i64 0]) W) := Lib.hid (fun W => by
    have h := sdo_any (w := W) 1 ⟨1, 2⟩ ⟨10, 20⟩ (ok_of (by decide) (by decide)) (ok_of (by decide) (by decide))
    rw [show sdV 1 ⟨1, 2⟩ ⟨10, 20⟩ = ⟨11, 22⟩ by decide +kernel, show sdE 1 ⟨1, 2⟩ ⟨10, 20⟩ = 0 by decide +kernel] at h
    exact h)
  have D2 : Hid (∀ W, Ans 23 #[.int .i64 2, .agg #[.int .u64 1, .int .u64 2], .agg #[.int .u64 2, .int .u64 2]] (.tuple #[.agg #[.int .u64 0, .int .u64 18446744073709551615], .int .i64 0]) W) := Lib.hid (fun W => by
    have h := sdo_any (w := W) 2 ⟨1, 2⟩ ⟨2, 2⟩ (ok_of (by decide) (by decide)) (ok_of (by decide) (by decide))
    rw [show sdV 2 ⟨1, 2⟩ ⟨2, 2⟩ = ⟨0, 18446744073709551615⟩ by decide +kernel, show sdE 2 ⟨1, 2⟩ ⟨2, 2⟩ = 0 by decide +kernel] at h
    exact h)
  have D3 : Hid (∀ W, Ans 23 #[.int .i64 5, .agg #[.int .u64 0, .int .u64 100], .agg #[.int .u64 8, .int .u64 8]] (.tuple #[.agg #[.int .u64 0, .int .u64 7], .int .i64 0]) W) := Lib.hid (fun W => by
    have h := sdo_any (w := W) 5 ⟨0, 100⟩ ⟨8, 8⟩ (ok_of (by decide) (by decide)) (ok_of (by decide) (by decide))
    rw [show sdV 5 ⟨0, 100⟩ ⟨8, 8⟩ = ⟨0, 7⟩ by decide +kernel, show sdE 5 ⟨0, 100⟩ ⟨8, 8⟩ = 0 by decide +kernel] at h
    exact h)
  have D4 : Hid (∀ W, Ans 23 #[.int .i64 7, .agg #[.int .u64 1, .int .u64 4], .agg #[.int .u64 0, .int .u64 3]] (.tuple #[.agg #[.int .u64 1, .int .u64 7], .int .i64 0]) W) := Lib.hid (fun W => by
    have h := sdo_any (w := W) 7 ⟨1, 4⟩ ⟨0, 3⟩ (ok_of (by decide) (by decide)) (ok_of (by decide) (by decide))
    rw [show sdV 7 ⟨1, 4⟩ ⟨0, 3⟩ = ⟨1, 7⟩ by decide +kernel, show sdE 7 ⟨1, 4⟩ ⟨0, 3⟩ = 0 by decide +kernel] at h
    exact h)
  have O1 : Hid (∀ W, Ans 12 #[.int .u64 2] (.agg #[.int .u64 2, .int .u64 2]) W) := Lib.hid (fun W => of_any (w := W) 2)
  have O2 : Hid (∀ W, Ans 12 #[.int .u64 8] (.agg #[.int .u64 8, .int .u64 8]) W) := Lib.hid (fun W => of_any (w := W) 8)
  have AL : Hid (∀ W, Ans 26 #[] (.agg #[.int .u64 0, .int .u64 18446744073709551615]) W) := Lib.hid (fun W => all_any (w := W))
  go_enter Try.func11, Try.ntmps11
  go_wp2_with (first
    | (go_at_call 23; (with_reducible refine (D1.out _).mono ?_); rintro e w1 ⟨rfl, hb1⟩; have F1 := Lib.hid (((Fr.nil w).step hb1).new 11 22); clear hb1)
    | (go_at_call 12; (with_reducible refine (O1.out _).mono ?_); rintro e w2 ⟨rfl, hb2⟩; have F2 := Lib.hid (F1.out.step hb2); clear hb2)
    | (go_at_call 23; (with_reducible refine (D2.out _).mono ?_); rintro e w3 ⟨rfl, hb3⟩; have F3 := Lib.hid ((F2.out.step hb3).new 0 18446744073709551615); clear hb3)
    | (go_at_call 12; (with_reducible refine (O2.out _).mono ?_); rintro e w4 ⟨rfl, hb4⟩; have F4 := Lib.hid (F3.out.step hb4); clear hb4)
    | (go_at_call 23; (with_reducible refine (D3.out _).mono ?_); rintro e w5 ⟨rfl, hb5⟩; have F5 := Lib.hid ((F4.out.step hb5).new 0 7); clear hb5)
    | (go_at_call 23; (with_reducible refine (D4.out _).mono ?_); rintro e w6 ⟨rfl, hb6⟩; have F6 := Lib.hid ((F5.out.step hb6).new 1 7); clear hb6))
  have FD := Lib.hid F6.out.drew
  have S0 : Hid (S8 ((w6.alloc (.cells #[.int .u64 1, .int .u64 7] 24)).drew) w1.heap.size w3.heap.size w5.heap.size w6.heap.size 11 22 0 18446744073709551615 0 7 1 7) := Lib.hid FD.out.s8
  go_region_held3 (fun w' => S8 w' w1.heap.size w3.heap.size w5.heap.size w6.heap.size 11 22 0 18446744073709551615 0 7 1 7) (first | (with_reducible exact S0.out) | (with_reducible exact S7.out) | go_keep) (first | (go_at_call 26; (with_reducible refine (AL.out _).mono ?_); rintro e w7 ⟨rfl, hb7⟩; have F7 := Lib.hid (FD.out.step hb7); have S7 : Hid (S8 w7 w1.heap.size w3.heap.size w5.heap.size w6.heap.size 11 22 0 18446744073709551615 0 7 1 7) := Lib.hid F7.out.s8; clear hb7))
  all_goals
    go_wp2_with fail
    go_ret
    exact ⟨rfl, F7.out.below⟩
end
end Go.Proofs.Ytfeobcmkbkaphaa
