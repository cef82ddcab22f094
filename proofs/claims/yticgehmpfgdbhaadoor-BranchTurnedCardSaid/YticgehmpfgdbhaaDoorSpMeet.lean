/- The contract of span's Meet. Conditions: none but the numbers' own form. -/
import Derived.Test.YticgehmpfgdbhaaDoorSpSmall
namespace Go.Proofs.YticgehmpfgdbhaaDoor
open Go.RowKit
set_option maxRecDepth 100000
set_option maxHeartbeats 4000000
section
variable {w : World}
theorem meet_ok (a b c d x y : Nat) (ha : a ≤ b) (hc : c ≤ d) (hx : x = max a c) (hy : y = min b d) :
    Ans 25 #[.agg #[.int .u64 (a : Int), .int .u64 (b : Int)], .agg #[.int .u64 (c : Int), .int .u64 (d : Int)]] (.tuple #[spv (if x ≤ y then ⟨x, y⟩ else sp0), .int .i64 (if x ≤ y then 0 else 6)]) w := by
  have M1 := Lib.hid (fun W => may_any (w := W) ⟨a, b⟩)
  have M2 := Lib.hid (fun W => may_any (w := W) ⟨c, d⟩)
  have M3 := Lib.hid (fun W => may_any (w := W) ⟨x, y⟩)
  rw [may_iff.2 (by exact ha)] at M1
  rw [may_iff.2 (by exact hc)] at M2
  clear ha hc
  simp only [spv] at M1 M2 M3
  by_cases h3 : x ≤ y
  · rw [may_iff.2 (by exact h3)] at M3
    rw [if_pos h3, if_pos h3]
    clear h3
    by_cases h1 : a < c <;> by_cases h2 : d < b
    · obtain rfl : x = c := by omega
      obtain rfl : y = d := by omega
      clear hx hy
      go_enter Tryd.func25, Tryd.ntmps25
      go_wp2_with (first
        | (go_at_call 14; (with_reducible refine (M1.out _).mono ?_); rintro e w1 ⟨rfl, hb1⟩; have F1 := Lib.hid ((Fr.f3 w _ _ _ _).step hb1); clear hb1; obtain ⟨q0, q1⟩ := F1.out.q1; obtain ⟨q2, q3⟩ := F1.out.2.q1; obtain ⟨q4, q5⟩ := F1.out.2.2.q1; obtain ⟨z0, z1⟩ := F1.out.i1)
        | (go_at_call 14; (with_reducible refine (M2.out _).mono ?_); rintro e w2 ⟨rfl, hb2⟩; have F2 := Lib.hid (F1.out.step hb2); clear hb2 q0 q1 q2 q3 q4 q5 z0 z1; obtain ⟨q0, q1⟩ := F2.out.q1; obtain ⟨q2, q3⟩ := F2.out.2.q1; obtain ⟨q4, q5⟩ := F2.out.2.2.q1; obtain ⟨z0, z1⟩ := F2.out.i1)
        | (go_at_call 14; (with_reducible refine (M3.out _).mono ?_); rintro e w3 ⟨rfl, hb3⟩; have F3 := Lib.hid ((F2.out.new _ _).step hb3); clear hb3 q0 q1 q2 q3 q4 q5 z0 z1; obtain ⟨q0, q1⟩ := F3.out.q1; obtain ⟨q2, q3⟩ := F3.out.2.q1; obtain ⟨z0, z1⟩ := F3.out.2.i1))
      exact done2 rfl rfl rfl rfl (put2 F3.out.2.1 _ _) rfl rfl rfl (below2 F3.out.below (by omega) _ _)
    · obtain rfl : x = c := by omega
      obtain rfl : y = b := by omega
      clear hx hy
      go_enter Tryd.func25, Tryd.ntmps25
      go_wp2_with (first
        | (go_at_call 14; (with_reducible refine (M1.out _).mono ?_); rintro e w1 ⟨rfl, hb1⟩; have F1 := Lib.hid ((Fr.f3 w _ _ _ _).step hb1); clear hb1; obtain ⟨q0, q1⟩ := F1.out.q1; obtain ⟨q2, q3⟩ := F1.out.2.q1; obtain ⟨q4, q5⟩ := F1.out.2.2.q1; obtain ⟨z0, z1⟩ := F1.out.i1)
        | (go_at_call 14; (with_reducible refine (M2.out _).mono ?_); rintro e w2 ⟨rfl, hb2⟩; have F2 := Lib.hid (F1.out.step hb2); clear hb2 q0 q1 q2 q3 q4 q5 z0 z1; obtain ⟨q0, q1⟩ := F2.out.q1; obtain ⟨q2, q3⟩ := F2.out.2.q1; obtain ⟨q4, q5⟩ := F2.out.2.2.q1; obtain ⟨z0, z1⟩ := F2.out.i1)
        | (go_at_call 14; (with_reducible refine (M3.out _).mono ?_); rintro e w3 ⟨rfl, hb3⟩; have F3 := Lib.hid ((F2.out.new _ _).step hb3); clear hb3 q0 q1 q2 q3 q4 q5 z0 z1; obtain ⟨q0, q1⟩ := F3.out.q1; obtain ⟨q2, q3⟩ := F3.out.2.q1; obtain ⟨z0, z1⟩ := F3.out.2.i1))
      exact done2 rfl rfl rfl rfl (put2 F3.out.2.1 _ _) rfl rfl rfl (below2 F3.out.below (by omega) _ _)
    · obtain rfl : x = a := by omega
      obtain rfl : y = d := by omega
      clear hx hy
      go_enter Tryd.func25, Tryd.ntmps25
      go_wp2_with (first
        | (go_at_call 14; (with_reducible refine (M1.out _).mono ?_); rintro e w1 ⟨rfl, hb1⟩; have F1 := Lib.hid ((Fr.f3 w _ _ _ _).step hb1); clear hb1; obtain ⟨q0, q1⟩ := F1.out.q1; obtain ⟨q2, q3⟩ := F1.out.2.q1; obtain ⟨q4, q5⟩ := F1.out.2.2.q1; obtain ⟨z0, z1⟩ := F1.out.i1)
        | (go_at_call 14; (with_reducible refine (M2.out _).mono ?_); rintro e w2 ⟨rfl, hb2⟩; have F2 := Lib.hid (F1.out.step hb2); clear hb2 q0 q1 q2 q3 q4 q5 z0 z1; obtain ⟨q0, q1⟩ := F2.out.q1; obtain ⟨q2, q3⟩ := F2.out.2.q1; obtain ⟨q4, q5⟩ := F2.out.2.2.q1; obtain ⟨z0, z1⟩ := F2.out.i1)
        | (go_at_call 14; (with_reducible refine (M3.out _).mono ?_); rintro e w3 ⟨rfl, hb3⟩; have F3 := Lib.hid ((F2.out.new _ _).step hb3); clear hb3 q0 q1 q2 q3 q4 q5 z0 z1; obtain ⟨q0, q1⟩ := F3.out.q1; obtain ⟨q2, q3⟩ := F3.out.2.q1; obtain ⟨z0, z1⟩ := F3.out.2.i1))
      exact done2 rfl rfl rfl rfl (put2 F3.out.2.1 _ _) rfl rfl rfl (below2 F3.out.below (by omega) _ _)
    · obtain rfl : x = a := by omega
      obtain rfl : y = b := by omega
      clear hx hy
      go_enter Tryd.func25, Tryd.ntmps25
      go_wp2_with (first
        | (go_at_call 14; (with_reducible refine (M1.out _).mono ?_); rintro e w1 ⟨rfl, hb1⟩; have F1 := Lib.hid ((Fr.f3 w _ _ _ _).step hb1); clear hb1; obtain ⟨q0, q1⟩ := F1.out.q1; obtain ⟨q2, q3⟩ := F1.out.2.q1; obtain ⟨q4, q5⟩ := F1.out.2.2.q1; obtain ⟨z0, z1⟩ := F1.out.i1)
        | (go_at_call 14; (with_reducible refine (M2.out _).mono ?_); rintro e w2 ⟨rfl, hb2⟩; have F2 := Lib.hid (F1.out.step hb2); clear hb2 q0 q1 q2 q3 q4 q5 z0 z1; obtain ⟨q0, q1⟩ := F2.out.q1; obtain ⟨q2, q3⟩ := F2.out.2.q1; obtain ⟨q4, q5⟩ := F2.out.2.2.q1; obtain ⟨z0, z1⟩ := F2.out.i1)
        | (go_at_call 14; (with_reducible refine (M3.out _).mono ?_); rintro e w3 ⟨rfl, hb3⟩; have F3 := Lib.hid ((F2.out.new _ _).step hb3); clear hb3 q0 q1 q2 q3 q4 q5 z0 z1; obtain ⟨q0, q1⟩ := F3.out.q1; obtain ⟨q2, q3⟩ := F3.out.2.q1; obtain ⟨z0, z1⟩ := F3.out.2.i1))
      exact done2 rfl rfl rfl rfl (put2 F3.out.2.1 _ _) rfl rfl rfl (below2 F3.out.below (by omega) _ _)
  · rw [show mayV ⟨x, y⟩ = false by simpa [mayV] using h3] at M3
    rw [if_neg h3, if_neg h3]
    clear h3
    by_cases h1 : a < c <;> by_cases h2 : d < b
    · obtain rfl : x = c := by omega
      obtain rfl : y = d := by omega
      clear hx hy
      go_enter Tryd.func25, Tryd.ntmps25
      go_wp2_with (first
        | (go_at_call 14; (with_reducible refine (M1.out _).mono ?_); rintro e w1 ⟨rfl, hb1⟩; have F1 := Lib.hid ((Fr.f3 w _ _ _ _).step hb1); clear hb1; obtain ⟨q0, q1⟩ := F1.out.q1; obtain ⟨q2, q3⟩ := F1.out.2.q1; obtain ⟨q4, q5⟩ := F1.out.2.2.q1; obtain ⟨z0, z1⟩ := F1.out.i1)
        | (go_at_call 14; (with_reducible refine (M2.out _).mono ?_); rintro e w2 ⟨rfl, hb2⟩; have F2 := Lib.hid (F1.out.step hb2); clear hb2 q0 q1 q2 q3 q4 q5 z0 z1; obtain ⟨q0, q1⟩ := F2.out.q1; obtain ⟨q2, q3⟩ := F2.out.2.q1; obtain ⟨q4, q5⟩ := F2.out.2.2.q1; obtain ⟨z0, z1⟩ := F2.out.i1)
        | (go_at_call 14; (with_reducible refine (M3.out _).mono ?_); rintro e w3 ⟨rfl, hb3⟩; have F3 := Lib.hid ((F2.out.new _ _).step hb3); clear hb3 q0 q1 q2 q3 q4 q5 z0 z1; obtain ⟨q0, q1⟩ := F3.out.q1; obtain ⟨q2, q3⟩ := F3.out.2.q1; obtain ⟨z0, z1⟩ := F3.out.2.i1))
      exact done2 rfl rfl rfl rfl (put2 F3.out.2.1 _ _) rfl rfl rfl (below2 F3.out.below (by omega) _ _)
    · obtain rfl : x = c := by omega
      obtain rfl : y = b := by omega
      clear hx hy
      go_enter Tryd.func25, Tryd.ntmps25
      go_wp2_with (first
        | (go_at_call 14; (with_reducible refine (M1.out _).mono ?_); rintro e w1 ⟨rfl, hb1⟩; have F1 := Lib.hid ((Fr.f3 w _ _ _ _).step hb1); clear hb1; obtain ⟨q0, q1⟩ := F1.out.q1; obtain ⟨q2, q3⟩ := F1.out.2.q1; obtain ⟨q4, q5⟩ := F1.out.2.2.q1; obtain ⟨z0, z1⟩ := F1.out.i1)
        | (go_at_call 14; (with_reducible refine (M2.out _).mono ?_); rintro e w2 ⟨rfl, hb2⟩; have F2 := Lib.hid (F1.out.step hb2); clear hb2 q0 q1 q2 q3 q4 q5 z0 z1; obtain ⟨q0, q1⟩ := F2.out.q1; obtain ⟨q2, q3⟩ := F2.out.2.q1; obtain ⟨q4, q5⟩ := F2.out.2.2.q1; obtain ⟨z0, z1⟩ := F2.out.i1)
        | (go_at_call 14; (with_reducible refine (M3.out _).mono ?_); rintro e w3 ⟨rfl, hb3⟩; have F3 := Lib.hid ((F2.out.new _ _).step hb3); clear hb3 q0 q1 q2 q3 q4 q5 z0 z1; obtain ⟨q0, q1⟩ := F3.out.q1; obtain ⟨q2, q3⟩ := F3.out.2.q1; obtain ⟨z0, z1⟩ := F3.out.2.i1))
      exact done2 rfl rfl rfl rfl (put2 F3.out.2.1 _ _) rfl rfl rfl (below2 F3.out.below (by omega) _ _)
    · obtain rfl : x = a := by omega
      obtain rfl : y = d := by omega
      clear hx hy
      go_enter Tryd.func25, Tryd.ntmps25
      go_wp2_with (first
        | (go_at_call 14; (with_reducible refine (M1.out _).mono ?_); rintro e w1 ⟨rfl, hb1⟩; have F1 := Lib.hid ((Fr.f3 w _ _ _ _).step hb1); clear hb1; obtain ⟨q0, q1⟩ := F1.out.q1; obtain ⟨q2, q3⟩ := F1.out.2.q1; obtain ⟨q4, q5⟩ := F1.out.2.2.q1; obtain ⟨z0, z1⟩ := F1.out.i1)
        | (go_at_call 14; (with_reducible refine (M2.out _).mono ?_); rintro e w2 ⟨rfl, hb2⟩; have F2 := Lib.hid (F1.out.step hb2); clear hb2 q0 q1 q2 q3 q4 q5 z0 z1; obtain ⟨q0, q1⟩ := F2.out.q1; obtain ⟨q2, q3⟩ := F2.out.2.q1; obtain ⟨q4, q5⟩ := F2.out.2.2.q1; obtain ⟨z0, z1⟩ := F2.out.i1)
        | (go_at_call 14; (with_reducible refine (M3.out _).mono ?_); rintro e w3 ⟨rfl, hb3⟩; have F3 := Lib.hid ((F2.out.new _ _).step hb3); clear hb3 q0 q1 q2 q3 q4 q5 z0 z1; obtain ⟨q0, q1⟩ := F3.out.q1; obtain ⟨q2, q3⟩ := F3.out.2.q1; obtain ⟨z0, z1⟩ := F3.out.2.i1))
      exact done2 rfl rfl rfl rfl (put2 F3.out.2.1 _ _) rfl rfl rfl (below2 F3.out.below (by omega) _ _)
    · obtain rfl : x = a := by omega
      obtain rfl : y = b := by omega
      clear hx hy
      go_enter Tryd.func25, Tryd.ntmps25
      go_wp2_with (first
        | (go_at_call 14; (with_reducible refine (M1.out _).mono ?_); rintro e w1 ⟨rfl, hb1⟩; have F1 := Lib.hid ((Fr.f3 w _ _ _ _).step hb1); clear hb1; obtain ⟨q0, q1⟩ := F1.out.q1; obtain ⟨q2, q3⟩ := F1.out.2.q1; obtain ⟨q4, q5⟩ := F1.out.2.2.q1; obtain ⟨z0, z1⟩ := F1.out.i1)
        | (go_at_call 14; (with_reducible refine (M2.out _).mono ?_); rintro e w2 ⟨rfl, hb2⟩; have F2 := Lib.hid (F1.out.step hb2); clear hb2 q0 q1 q2 q3 q4 q5 z0 z1; obtain ⟨q0, q1⟩ := F2.out.q1; obtain ⟨q2, q3⟩ := F2.out.2.q1; obtain ⟨q4, q5⟩ := F2.out.2.2.q1; obtain ⟨z0, z1⟩ := F2.out.i1)
        | (go_at_call 14; (with_reducible refine (M3.out _).mono ?_); rintro e w3 ⟨rfl, hb3⟩; have F3 := Lib.hid ((F2.out.new _ _).step hb3); clear hb3 q0 q1 q2 q3 q4 q5 z0 z1; obtain ⟨q0, q1⟩ := F3.out.q1; obtain ⟨q2, q3⟩ := F3.out.2.q1; obtain ⟨z0, z1⟩ := F3.out.2.i1))
      exact done2 rfl rfl rfl rfl (put2 F3.out.2.1 _ _) rfl rfl rfl (below2 F3.out.below (by omega) _ _)
theorem meet_any (s t : Sp) : Ans 25 #[spv s, spv t] (.tuple #[spv (meV s t), .int .i64 (meE s t)]) w := by
  cases h1 : mayV s with
  | false =>
    have M1 := Lib.hid (fun W => may_any (w := W) s)
    rw [h1] at M1
    rw [show meV s t = sp0 by unfold meV; rw [h1]; rfl, show meE s t = 1 by unfold meE; rw [h1]; rfl]
    clear h1
    obtain ⟨a, b⟩ := s
    obtain ⟨c, d⟩ := t
    simp only [spv] at M1 ⊢
    go_enter Tryd.func25, Tryd.ntmps25
    go_wp2_with (go_at_call 14; (with_reducible refine (M1.out _).mono ?_); rintro e w1 ⟨rfl, hb1⟩; have F1 := Lib.hid ((Fr.f3 w _ _ _ _).step hb1); clear hb1; obtain ⟨q0, q1⟩ := F1.out.q1; obtain ⟨q2, q3⟩ := F1.out.2.q1; obtain ⟨q4, q5⟩ := F1.out.2.2.q1; obtain ⟨z0, z1⟩ := F1.out.i1)
    exact done2 rfl rfl rfl rfl (put2 F1.out.1 _ _) rfl rfl rfl (below2 F1.out.below (by omega) _ _)
  | true =>
    cases h2 : mayV t with
    | false =>
      have M1 := Lib.hid (fun W => may_any (w := W) s)
      have M2 := Lib.hid (fun W => may_any (w := W) t)
      rw [h1] at M1
      rw [h2] at M2
      rw [show meV s t = sp0 by unfold meV; rw [h1, h2]; rfl, show meE s t = 1 by unfold meE; rw [h1, h2]; rfl]
      clear h1 h2
      obtain ⟨a, b⟩ := s
      obtain ⟨c, d⟩ := t
      simp only [spv] at M1 M2 ⊢
      go_enter Tryd.func25, Tryd.ntmps25
      go_wp2_with (first
        | (go_at_call 14; (with_reducible refine (M1.out _).mono ?_); rintro e w1 ⟨rfl, hb1⟩; have F1 := Lib.hid ((Fr.f3 w _ _ _ _).step hb1); clear hb1; obtain ⟨q0, q1⟩ := F1.out.q1; obtain ⟨q2, q3⟩ := F1.out.2.q1; obtain ⟨q4, q5⟩ := F1.out.2.2.q1; obtain ⟨z0, z1⟩ := F1.out.i1)
        | (go_at_call 14; (with_reducible refine (M2.out _).mono ?_); rintro e w2 ⟨rfl, hb2⟩; have F2 := Lib.hid (F1.out.step hb2); clear hb2 q0 q1 q2 q3 q4 q5 z0 z1; obtain ⟨q0, q1⟩ := F2.out.q1; obtain ⟨q2, q3⟩ := F2.out.2.q1; obtain ⟨q4, q5⟩ := F2.out.2.2.q1; obtain ⟨z0, z1⟩ := F2.out.i1))
      exact done2 rfl rfl rfl rfl (put2 F2.out.1 _ _) rfl rfl rfl (below2 F2.out.below (by omega) _ _)
    | true =>
      rw [show meV s t = if max s.lo t.lo ≤ min s.hi t.hi then ⟨max s.lo t.lo, min s.hi t.hi⟩ else sp0 by unfold meV; rw [h1, h2]; rfl, show meE s t = if max s.lo t.lo ≤ min s.hi t.hi then 0 else 6 by unfold meE; rw [h1, h2]; rfl]
      exact meet_ok s.lo s.hi t.lo t.hi _ _ (may_iff.1 h1) (may_iff.1 h2) rfl rfl
end
end Go.Proofs.YticgehmpfgdbhaaDoor
