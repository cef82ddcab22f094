/- The contracts of span's Join and Meet. Conditions: none but the numbers' own form. -/
import Derived.Test.YtfeobcmkbkaphaaSpSmall
namespace Go.Proofs.Ytfeobcmkbkaphaa
open Go.RowKit
set_option maxRecDepth 100000
set_option maxHeartbeats 4000000
section
variable {w : World}
theorem join_any (s t : Sp) : Ans 19 #[spv s, spv t] (.tuple #[spv (joV s t), .int .i64 (joE s t)]) w := by
  have M1 := Lib.hid (fun W => may_any (w := W) s)
  have M2 := Lib.hid (fun W => may_any (w := W) t)
  obtain ⟨v, hv⟩ : ∃ v, joV s t = v := ⟨_, rfl⟩
  obtain ⟨E, hE⟩ : ∃ E, joE s t = E := ⟨_, rfl⟩
  obtain ⟨m1, h1⟩ : ∃ m, mayV s = m := ⟨_, rfl⟩
  obtain ⟨m2, h2⟩ : ∃ m, mayV t = m := ⟨_, rfl⟩
  rw [hv, hE]
  rw [h1] at M1
  rw [h2] at M2
  unfold joV at hv
  unfold joE at hE
  rw [h1, h2] at hv hE
  clear h1 h2
  obtain ⟨a, b⟩ := s
  obtain ⟨c, d⟩ := t
  simp only [spv] at M1 M2
  show Ans _ #[.agg #[.int .u64 (a : Int), .int .u64 (b : Int)], .agg #[.int .u64 (c : Int), .int .u64 (d : Int)]] _ _
  cases m1 <;> cases m2
  all_goals
    simp at hv hE
    have HV := Lib.hid hv
    have HE := Lib.hid hE
    clear hv hE
    go_enter Try.func19, Try.ntmps19
    go_wp2_with (first
      | (go_at_call 13; (with_reducible refine (M1.out _).mono ?_); rintro e w1 ⟨rfl, hb1⟩; have F1 := Lib.hid ((Fr.f3 w a b c d).step hb1); clear hb1; obtain ⟨q0, q1⟩ := F1.out.q1; obtain ⟨q2, q3⟩ := F1.out.2.q1; obtain ⟨q4, q5⟩ := F1.out.2.2.q1; obtain ⟨z0, z1⟩ := F1.out.i1)
      | (go_at_call 13; (with_reducible refine (M2.out _).mono ?_); rintro e w2 ⟨rfl, hb2⟩; have F2 := Lib.hid (F1.out.step hb2); clear hb2 q0 q1 q2 q3 q4 q5 z0 z1; obtain ⟨q0, q1⟩ := F2.out.q1; obtain ⟨q2, q3⟩ := F2.out.2.q1; obtain ⟨q4, q5⟩ := F2.out.2.2.q1; obtain ⟨z0, z1⟩ := F2.out.i1))
    all_goals first
      | exact done2 rfl rfl rfl rfl (put2 F2.out.1 _ _) (by rw [← HV.out]; simp [sp0]; try omega) (by rw [← HV.out]; simp [sp0]; try omega) HE.out (below2 F2.out.below (by omega) _ _)
      | exact done2 rfl rfl rfl rfl (put2 F1.out.1 _ _) (by rw [← HV.out]; rfl) (by rw [← HV.out]; rfl) HE.out (below2 F1.out.below (by omega) _ _)
end
end Go.Proofs.Ytfeobcmkbkaphaa
