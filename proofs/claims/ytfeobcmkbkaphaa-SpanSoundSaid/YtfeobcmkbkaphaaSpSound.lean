/- The walk of SpanSound: it returns true, and nothing that was there has turned. Conditions: the numbers have at most 64 bits. -/
import Derived.Test.YtfeobcmkbkaphaaSpShown
import Derived.Test.YtfeobcmkbkaphaaSpOpen
namespace Go.Proofs.Ytfeobcmkbkaphaa
open Go.RowKit
set_option maxRecDepth 100000
set_option maxHeartbeats 4000000
section
variable {w : World}
theorem sound_nat (k a b c d x y : Nat) (hk : k < 256) (hs : (⟨a, b⟩ : Sp).ok) (ht : (⟨c, d⟩ : Sp).ok) :
    Ans 6 #[.int .u8 (k : Int), .agg #[.int .u64 (a : Int), .int .u64 (b : Int)], .agg #[.int .u64 (c : Int), .int .u64 (d : Int)], .int .u64 (x : Int), .int .u64 (y : Int)] (.bool true) w := by
  obtain ⟨o, ho⟩ : ∃ o : Int, o = 1 + (k : Int) % 11 := ⟨_, rfl⟩
  have ho1 : 1 ≤ o ∧ o ≤ 11 := by omega
  have kw : IntKind.i64.wrap ((k : Int) % 11) = (k : Int) % 11 := IntWalk.i64_in _ (by omega)
  have kc : 1 + (k : Int) % 11 = o := ho.symm
  have SH := Lib.hid (fun W => shown_any (w := W))
  have H1 := Lib.hid (fun W => has_any (w := W) ⟨a, b⟩ x)
  have H2 := Lib.hid (fun W => has_any (w := W) ⟨c, d⟩ y)
  simp only [spv] at H1 H2
  clear ho
  cases h1 : hasV ⟨a, b⟩ x with
  | false =>
    rw [h1] at H1
    clear h1 ho1 hs ht H2
    go_enter Try.func6, Try.ntmps6
    go_wp2_with (first
      | (go_at_call 11; (with_reducible refine (SH.out _).mono ?_); rintro e w1 ⟨rfl, hb1⟩; have F1 := Lib.hid ((Fr.f2 w a b c d).step hb1); clear hb1; obtain ⟨q0, q1⟩ := F1.out.q1; obtain ⟨q2, q3⟩ := F1.out.2.q1)
      | (go_at_call 15; (with_reducible refine (H1.out _).mono ?_); rintro e w2 ⟨rfl, hb2⟩; have F2 := Lib.hid (F1.out.step hb2); clear hb2 q0 q1 q2 q3; obtain ⟨q0, q1⟩ := F2.out.q1; obtain ⟨q2, q3⟩ := F2.out.2.q1))
    go_ret
    exact ⟨rfl, F2.out.below⟩
  | true =>
    cases h2 : hasV ⟨c, d⟩ y with
    | false =>
      rw [h1] at H1
      rw [h2] at H2
      clear h1 h2 ho1 hs ht
      go_enter Try.func6, Try.ntmps6
      go_wp2_with (first
        | (go_at_call 11; (with_reducible refine (SH.out _).mono ?_); rintro e w1 ⟨rfl, hb1⟩; have F1 := Lib.hid ((Fr.f2 w a b c d).step hb1); clear hb1; obtain ⟨q0, q1⟩ := F1.out.q1; obtain ⟨q2, q3⟩ := F1.out.2.q1)
        | (go_at_call 15; (with_reducible refine (H1.out _).mono ?_); rintro e w2 ⟨rfl, hb2⟩; have F2 := Lib.hid (F1.out.step hb2); clear hb2 q0 q1 q2 q3; obtain ⟨q0, q1⟩ := F2.out.q1; obtain ⟨q2, q3⟩ := F2.out.2.q1)
        | (go_at_call 15; (with_reducible refine (H2.out _).mono ?_); rintro e w3 ⟨rfl, hb3⟩; have F3 := Lib.hid (F2.out.step hb3); clear hb3 q0 q1 q2 q3; obtain ⟨q0, q1⟩ := F3.out.q1; obtain ⟨q2, q3⟩ := F3.out.2.q1))
      go_ret
      exact ⟨rfl, F3.out.below⟩
    | true =>
      have hl := l_sound o ho1 hs ht h1 h2
      have hx := (has_iff.1 h1).2
      have hy := (has_iff.1 h2).2
      have D1 := Lib.hid (fun W => do_any (w := W) o x y (Nat.lt_of_le_of_lt hx hs.2) (Nat.lt_of_le_of_lt hy ht.2))
      have D2 := Lib.hid (fun W => sdo_any (w := W) o ⟨a, b⟩ ⟨c, d⟩ hs ht)
      have e1 : doE o = 0 := by unfold doE; rw [if_pos ho1]
      have e2 : sdE o ⟨a, b⟩ ⟨c, d⟩ = 0 := by
        have m1 : mayV ⟨a, b⟩ = true := may_iff.2 (Nat.le_trans (has_iff.1 h1).1 hx)
        have m2 : mayV ⟨c, d⟩ = true := may_iff.2 (Nat.le_trans (has_iff.1 h2).1 hy)
        unfold sdE
        rw [m1, m2]
        exact e1
      rw [e1] at D1
      rw [e2] at D2
      rw [h1] at H1
      rw [h2] at H2
      generalize doV o x y = n at D1 hl
      generalize sdV o ⟨a, b⟩ ⟨c, d⟩ = v at D2 hl
      obtain ⟨l, u⟩ := v
      have M1 := Lib.hid (fun W => may_any (w := W) ⟨l, u⟩)
      have H3 := Lib.hid (fun W => has_any (w := W) ⟨l, u⟩ n)
      rw [hl.1] at M1
      rw [hl.2] at H3
      simp only [spv] at D2 M1 H3
      clear h1 h2 ho1 hs ht hl hx hy e1 e2
      go_enter Try.func6, Try.ntmps6
      go_wp2_with (first
        | (go_at_call 11; (with_reducible refine (SH.out _).mono ?_); rintro e w1 ⟨rfl, hb1⟩; have F1 := Lib.hid ((Fr.f2 w a b c d).step hb1); clear hb1; obtain ⟨q0, q1⟩ := F1.out.q1; obtain ⟨q2, q3⟩ := F1.out.2.q1)
        | (go_at_call 15; (with_reducible refine (H1.out _).mono ?_); rintro e w2 ⟨rfl, hb2⟩; have F2 := Lib.hid (F1.out.step hb2); clear hb2 q0 q1 q2 q3; obtain ⟨q0, q1⟩ := F2.out.q1; obtain ⟨q2, q3⟩ := F2.out.2.q1)
        | (go_at_call 15; (with_reducible refine (H2.out _).mono ?_); rintro e w3 ⟨rfl, hb3⟩; have F3 := Lib.hid (F2.out.step hb3); clear hb3 q0 q1 q2 q3; obtain ⟨q0, q1⟩ := F3.out.q1; obtain ⟨q2, q3⟩ := F3.out.2.q1)
        | (go_at_call 25; (with_reducible refine (D1.out _).mono ?_); rintro e wq ⟨rfl, rfl⟩)
        | (go_at_call 23; (with_reducible refine (D2.out _).mono ?_); rintro e w4 ⟨rfl, hb4⟩; have F4 := Lib.hid ((F3.out.step hb4).new l u); clear hb4 q0 q1 q2 q3)
        | (go_at_call 13; (with_reducible refine (M1.out _).mono ?_); rintro e w5 ⟨rfl, hb5⟩; have F5 := Lib.hid (F4.out.step hb5); clear hb5; obtain ⟨q0, q1⟩ := F5.out.q1)
        | (go_at_call 15; (with_reducible refine (H3.out _).mono ?_); rintro e w6 ⟨rfl, hb6⟩; have F6 := Lib.hid (F5.out.step hb6); clear hb6 q0 q1))
      go_ret
      exact ⟨rfl, F6.out.below⟩
theorem sound_row (x0 : Int) (s t : Sp) (x3 x4 : Int) (W : World) (h0 : (Lit.int .u8 x0).wf = true) (h3 : (Lit.int .u64 x3).wf = true) (h4 : (Lit.int .u64 x4).wf = true) (hs : s.ok) (ht : t.ok) :
    Calls Try.prog 6 #[.int .u8 x0, spv s, spv t, .int .u64 x3, .int .u64 x4] W fun e w' => e = .returned (.bool true) ∧ Below W.heap.size W w' := by
  obtain ⟨k, rfl, b0⟩ := nat_u8 h0
  obtain ⟨x, rfl, _⟩ := nat_u64 h3
  obtain ⟨y, rfl, _⟩ := nat_u64 h4
  exact sound_nat k s.lo s.hi t.lo t.hi x y b0 hs ht
end
end Go.Proofs.Ytfeobcmkbkaphaa
