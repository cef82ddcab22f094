/- The walk of AluOpposite: it returns true, and nothing that was there has turned. Conditions: the numbers have at most 64 bits; Not's table lies in its block. -/
import Derived.Test.YtlkihmjaigojmaaDoorAShown
namespace Go.Proofs.YtlkihmjaigojmaaDoor
open Go.RowKit
set_option maxRecDepth 100000
theorem nt_nt {c : Int} (h : 1 ≤ c ∧ c ≤ 8) : ntV (ntV c) = c ∧ 1 ≤ ntV c ∧ ntV c ≤ 8 := by
  rcases (show c = 1 ∨ c = 2 ∨ c = 3 ∨ c = 4 ∨ c = 5 ∨ c = 6 ∨ c = 7 ∨ c = 8 by omega) with rfl | rfl | rfl | rfl | rfl | rfl | rfl | rfl <;> decide
theorem hd_nt {c : Int} (h : 1 ≤ c ∧ c ≤ 8) (a b : Nat) : hdV (ntV c) a b = !hdV c a b := by
  rcases (show c = 1 ∨ c = 2 ∨ c = 3 ∨ c = 4 ∨ c = 5 ∨ c = 6 ∨ c = 7 ∨ c = 8 by omega) with rfl | rfl | rfl | rfl | rfl | rfl | rfl | rfl <;> simp [hdV, ntV]
theorem three (a b : Nat) : (hdV 3 a b = true ∧ hdV 5 b a = true ∧ hdV 1 a b = false ∧ hdV 4 a b = true) ∨ (hdV 3 a b = false ∧ hdV 5 b a = false ∧ hdV 1 a b = true ∧ hdV 4 a b = true) ∨ (hdV 3 a b = false ∧ hdV 5 b a = false ∧ hdV 1 a b = false ∧ hdV 4 a b = false) := by
  rcases Nat.lt_trichotomy a b with h | h | h
  · exact .inl (by simp [hdV]; omega)
  · exact .inr (.inl (by simp [hdV]; omega))
  · exact .inr (.inr (by simp [hdV]; omega))
theorem opp7_nat (k : Nat) (a b : Nat) (hk : k < 256) (ha : a < 18446744073709551616) (hb : b < 18446744073709551616) (w : World) (T : Hid (Nots w)) :
    Calls Tryd.prog 7 #[.int .u8 (k : Int), .int .u64 (a : Int), .int .u64 (b : Int)] w fun e w' => e = .returned (.bool true) ∧ w = w' := by
  have SH := Lib.hid (shown_any T)
  obtain ⟨c, hc⟩ : ∃ c : Int, c = 1 + (k : Int) % 8 := ⟨_, rfl⟩
  have hc1 : 1 ≤ c ∧ c ≤ 8 := by omega
  obtain ⟨e1, e2⟩ := nt_nt hc1
  have e3 := hd_nt hc1 a b
  have z1 : ntE c = 0 := by unfold ntE; rw [if_pos hc1]
  have z2 : ntE (ntV c) = 0 := by unfold ntE; rw [if_pos e2]
  have z3 : hdE c = 0 := by unfold hdE; rw [if_pos (by omega)]
  have z4 : hdE (ntV c) = 0 := by unfold hdE; rw [if_pos (by omega)]
  have N1 := Lib.hid (not_any c T)
  have N2 := Lib.hid (not_any (ntV c) T)
  have H1 := Lib.hid (holds_any (w := w) c a b ha hb)
  have H2 := Lib.hid (holds_any (w := w) (ntV c) a b ha hb)
  have H3 := Lib.hid (holds_any (w := w) 3 a b ha hb)
  have H4 := Lib.hid (holds_any (w := w) 5 b a hb ha)
  have H5 := Lib.hid (holds_any (w := w) 1 a b ha hb)
  have H6 := Lib.hid (holds_any (w := w) 4 a b ha hb)
  have t3 := three a b
  rw [z1] at N1
  rw [z2, e1] at N2
  rw [z3] at H1
  rw [z4, e3] at H2
  rw [show hdE 3 = 0 from rfl] at H3
  rw [show hdE 5 = 0 from rfl] at H4
  rw [show hdE 1 = 0 from rfl] at H5
  rw [show hdE 4 = 0 from rfl] at H6
  clear z1 z2 z3 z4 e1 e2 e3 hc1 ha hb
  generalize ntV c = n at N1 N2 H2
  generalize hdV c a b = x at H1 H2
  rcases t3 with ⟨t1, t2, t3, t4⟩ | ⟨t1, t2, t3, t4⟩ | ⟨t1, t2, t3, t4⟩
  all_goals
    rw [t1] at H3
    rw [t2] at H4
    rw [t3] at H5
    rw [t4] at H6
    clear t1 t2 t3 t4
    cases x
    all_goals
      have kw : IntKind.i64.wrap ((k : Int) % 8) = (k : Int) % 8 := IntWalk.i64_in _ (by omega)
      have kc : 1 + (k : Int) % 8 = c := hc.symm
      have HC := Lib.hid hc
      clear hc
      go_enter Tryd.func7, Tryd.ntmps7
      go_wp2_with (first
            | (go_at_call 10; (with_reducible refine SH.out.mono ?_); rintro e w1 ⟨rfl, rfl⟩)
            | (go_at_call 15; (with_reducible refine N1.out.mono ?_); rintro e w1 ⟨rfl, rfl⟩)
            | (go_at_call 15; (with_reducible refine N2.out.mono ?_); rintro e w1 ⟨rfl, rfl⟩)
            | (go_at_call 13; (with_reducible refine H1.out.mono ?_); rintro e w1 ⟨rfl, rfl⟩)
            | (go_at_call 13; (with_reducible refine H2.out.mono ?_); rintro e w1 ⟨rfl, rfl⟩)
            | (go_at_call 13; (with_reducible refine H3.out.mono ?_); rintro e w1 ⟨rfl, rfl⟩)
            | (go_at_call 13; (with_reducible refine H4.out.mono ?_); rintro e w1 ⟨rfl, rfl⟩)
            | (go_at_call 13; (with_reducible refine H5.out.mono ?_); rintro e w1 ⟨rfl, rfl⟩)
            | (go_at_call 13; (with_reducible refine H6.out.mono ?_); rintro e w1 ⟨rfl, rfl⟩))
      go_ret
      exact ⟨rfl, rfl⟩
theorem opp7_walk (x0 x1 x2 : Int) (w : World) (h0 : (Lit.int .u8 x0).wf = true) (h1 : (Lit.int .u64 x1).wf = true) (h2 : (Lit.int .u64 x2).wf = true) (hT : Nots w) (_hB : True) :
    Calls Tryd.prog 7 #[.int .u8 x0, .int .u64 x1, .int .u64 x2] w fun e w' => e = .returned (.bool true) ∧ Below w.heap.size w w' := by
  obtain ⟨a0, rfl, b0⟩ := nat_u8 h0
  obtain ⟨a1, rfl, b1⟩ := nat_u64 h1
  obtain ⟨a2, rfl, b2⟩ := nat_u64 h2
  exact (opp7_nat a0 a1 a2 b0 b1 b2 w (Lib.hid hT)).mono fun _ _ h => ⟨h.1, by rw [← h.2]; exact Below.refl _ _⟩
end Go.Proofs.YtlkihmjaigojmaaDoor
