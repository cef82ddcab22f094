/- The contracts of span's smallest functions: Of, upTo, All, May, Has, Within, isSingle, and the document's like them. Conditions: none but the numbers' own form. -/
import Derived.Test.YticgehmpfgdbhaaDoorSpWords
namespace Go.Proofs.YticgehmpfgdbhaaDoor
open Go.RowKit
set_option maxRecDepth 100000
section
variable {w : World}
theorem of_any (n : Nat) : Ans 16 #[.int .u64 (n : Int)] (spv (one n)) w := by
  go_enter Tryd.func16, Tryd.ntmps16
  go_wp2_with fail
  refine bodyPost_ret (res_one rfl rfl (Blk.new _ _ _)) rfl ?_
  exact ⟨rfl, by go_grown⟩
theorem to_any (a b : Nat) : Ans 31 #[.int .u64 (a : Int), .int .u64 (b : Int)] (spv ⟨a, b⟩) w := by
  go_enter Tryd.func31, Tryd.ntmps31
  go_wp2_with fail
  refine bodyPost_ret (res_one rfl rfl (Blk.new _ _ _)) rfl ?_
  exact ⟨rfl, by go_grown⟩
theorem less_any (a b : Nat) : Calls Tryd.prog 33 #[.int .u64 (a : Int), .int .u64 (b : Int)] w fun e w' => e = .returned (.int .u64 ((min a b : Nat) : Int)) ∧ w = w' := by
  by_cases h : a < b
  · have HM := Lib.hid (show min a b = a by omega)
    rw [HM.out]
    go_enter Tryd.func33, Tryd.ntmps33
    go_wp2_with fail
    go_ret
    exact ⟨rfl, rfl⟩
  · have HM := Lib.hid (show min a b = b by omega)
    rw [HM.out]
    go_enter Tryd.func33, Tryd.ntmps33
    go_wp2_with fail
    go_ret
    exact ⟨rfl, rfl⟩
theorem more_any (a b : Nat) : Calls Tryd.prog 32 #[.int .u64 (a : Int), .int .u64 (b : Int)] w fun e w' => e = .returned (.int .u64 ((max a b : Nat) : Int)) ∧ w = w' := by
  by_cases h : b < a
  · have HM := Lib.hid (show max a b = a by omega)
    rw [HM.out]
    go_enter Tryd.func32, Tryd.ntmps32
    go_wp2_with fail
    go_ret
    exact ⟨rfl, rfl⟩
  · have HM := Lib.hid (show max a b = b by omega)
    rw [HM.out]
    go_enter Tryd.func32, Tryd.ntmps32
    go_wp2_with fail
    go_ret
    exact ⟨rfl, rfl⟩
theorem may_any (s : Sp) : Ans 14 #[spv s] (.bool (mayV s)) w := by
  obtain ⟨lo, hi⟩ := s
  unfold spv
  go_enter Tryd.func14, Tryd.ntmps14
  go_wp2_with fail
  go_ret
  exact ⟨rfl, by go_grown⟩
theorem rmay_any (s : Sp) : Ans 20 #[spv s] (.bool (mayV s)) w := by
  obtain ⟨lo, hi⟩ := s
  unfold spv
  go_enter Tryd.func20, Tryd.ntmps20
  go_wp2_with fail
  go_ret
  exact ⟨rfl, by go_grown⟩
theorem has_any (s : Sp) (n : Nat) : Ans 12 #[spv s, .int .u64 (n : Int)] (.bool (hasV s n)) w := by
  obtain ⟨lo, hi⟩ := s
  unfold spv hasV
  by_cases h : lo ≤ n
  · have HH := Lib.hid (show (decide (lo ≤ n) && decide (n ≤ hi)) = decide (n ≤ hi) by simp [h])
    dsimp only
    rw [HH.out]
    go_enter Tryd.func12, Tryd.ntmps12
    go_wp2_with fail
    go_ret
    exact ⟨rfl, by go_grown⟩
  · have HH := Lib.hid (show (decide (lo ≤ n) && decide (n ≤ hi)) = false by simp [h])
    dsimp only
    rw [HH.out]
    go_enter Tryd.func12, Tryd.ntmps12
    go_wp2_with fail
    go_ret
    exact ⟨rfl, by go_grown⟩
theorem within_any (s t : Sp) : Ans 15 #[spv s, spv t] (.bool (wiV s t)) w := by
  have M1 := Lib.hid (fun W => may_any (w := W) s)
  have M2 := Lib.hid (fun W => may_any (w := W) t)
  have H1 := Lib.hid (fun W => has_any (w := W) t s.lo)
  have H2 := Lib.hid (fun W => has_any (w := W) t s.hi)
  unfold wiV
  generalize mayV s = m1 at M1
  generalize mayV t = m2 at M2
  generalize hasV t s.lo = h1 at H1
  generalize hasV t s.hi = h2 at H2
  obtain ⟨a, b⟩ := s
  obtain ⟨c, d⟩ := t
  simp only [spv] at M1 M2 H1 H2 ⊢
  cases m1 <;> cases m2 <;> cases h1 <;> cases h2
  all_goals
    go_enter Tryd.func15, Tryd.ntmps15
    go_wp2_with (first
      | (go_at_call 14; (with_reducible refine (M1.out _).mono ?_); rintro e w1 ⟨rfl, hb1⟩; have F1 := Lib.hid ((Fr.f2 w a b c d).step hb1); clear hb1; obtain ⟨q0, q1⟩ := F1.out.q1; obtain ⟨q2, q3⟩ := F1.out.2.q1)
      | (go_at_call 14; (with_reducible refine (M2.out _).mono ?_); rintro e w2 ⟨rfl, hb2⟩; have F2 := Lib.hid (F1.out.step hb2); clear hb2 q0 q1 q2 q3; obtain ⟨q0, q1⟩ := F2.out.q1; obtain ⟨q2, q3⟩ := F2.out.2.q1)
      | (go_at_call 12; (with_reducible refine (H1.out _).mono ?_); rintro e w3 ⟨rfl, hb3⟩; have F3 := Lib.hid (F2.out.step hb3); clear hb3 q0 q1 q2 q3; obtain ⟨q0, q1⟩ := F3.out.q1; obtain ⟨q2, q3⟩ := F3.out.2.q1)
      | (go_at_call 12; (with_reducible refine (H2.out _).mono ?_); rintro e w4 ⟨rfl, hb4⟩; have F4 := Lib.hid (F3.out.step hb4); clear hb4 q0 q1 q2 q3))
    go_ret
    first
      | exact ⟨rfl, F4.out.below⟩
      | exact ⟨rfl, F3.out.below⟩
      | exact ⟨rfl, F2.out.below⟩
      | exact ⟨rfl, F1.out.below⟩
end
end Go.Proofs.YticgehmpfgdbhaaDoor
