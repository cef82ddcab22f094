/- The walk of AluBits: it returns true, and nothing that was there has turned. Conditions: the numbers have at most 64 bits; Not's table lies in its block. -/
import Derived.Test.YtlkihmjaigojmaaDoorAShown
namespace Go.Proofs.YtlkihmjaigojmaaDoor
open Go.RowKit
set_option maxRecDepth 100000
theorem bits7_nat (a b c : Nat) (ha : a < 18446744073709551616) (hb : b < 18446744073709551616) (hc : c < 18446744073709551616) (w : World) (T : Hid (Nots w)) :
    Calls Tryd.prog 8 #[.int .u64 (a : Int), .int .u64 (b : Int), .int .u64 (c : Int)] w fun e w' => e = .returned (.bool true) ∧ w = w' := by
  have SH := Lib.hid (shown_any T)
  obtain ⟨u, hu, eu, Du⟩ := dw_new w 6 a b (by decide) ha hb
  obtain ⟨v, hv, ev, Dv⟩ := dw_new w 7 a b (by decide) ha hb
  obtain ⟨x, hx, ex, Dx⟩ := dw_new w 8 a b (by decide) ha hb
  obtain ⟨p, hp, ep, Dp⟩ := dw_new w 6 v c (by decide) hv hc
  obtain ⟨q, hq, eq, Dq⟩ := dw_new w 6 a c (by decide) ha hc
  obtain ⟨r, hr, er, Dr⟩ := dw_new w 6 b c (by decide) hb hc
  have D1 := dw_is w 6 u a (by decide) hu ha (v := u) (by rw [eu]; exact l_in a b)
  have D2 := dw_is w 6 a v (by decide) ha hv (v := a) (by rw [ev]; exact l_out a b)
  have D3 := dw_is w 7 u x (by decide) hu hx (v := v) (by rw [eu, ev, ex]; exact l_orx a b)
  have D4 : Hid (Calls Tryd.prog 17 #[.int .i64 6, .int .u64 (u : Int), .int .u64 (x : Int)] w fun e w' => e = .returned (.int .u64 0) ∧ w = w') := dw_is w 6 u x (by decide) hu hx (v := 0) (by rw [eu, ex]; exact l_andx a b)
  have D5 := dw_is w 6 b a (by decide) hb ha (v := u) (by rw [eu]; exact Nat.and_comm b a)
  have D6 := dw_is w 7 b a (by decide) hb ha (v := v) (by rw [ev]; exact Nat.or_comm b a)
  have D7 := dw_is w 8 b a (by decide) hb ha (v := x) (by rw [ex]; exact Nat.xor_comm b a)
  have D8 := dw_is w 7 q r (by decide) hq hr (v := p) (by rw [ep, eq, er, ev]; exact (l_dist a b c).symm)
  have C := holds_any (w := w) 9 a b ha hb
  rw [show hdV 9 a b = decide (u ≠ 0) by rw [eu]; rfl] at C
  have hz : u = 0 ∨ 0 < u := Nat.eq_zero_or_pos u
  clear ha hb hc hu hv hx hp hq hr eu ev ex ep eq er
  rcases hz with hz | hz
  · have CH : Hid (Calls Tryd.prog 13 #[.int .i64 9, .int .u64 (a : Int), .int .u64 (b : Int)] w fun e w' => e = .returned (.tuple #[.bool false, .int .i64 0]) ∧ w = w') := by
      rw [hz] at C; exact Lib.hid C
    clear C
    subst hz
    simp only [Dw, Int.natCast_zero] at Du D1 D3 D4 D5
    go_enter Tryd.func8, Tryd.ntmps8
    go_wp2_with (first
      | (go_at_call 10; (with_reducible refine SH.out.mono ?_); rintro e w1 ⟨rfl, rfl⟩)
      | (go_at_call 17; (with_reducible refine Du.out.mono ?_); rintro e w1 ⟨rfl, rfl⟩)
      | (go_at_call 17; (with_reducible refine Dv.out.mono ?_); rintro e w1 ⟨rfl, rfl⟩)
      | (go_at_call 17; (with_reducible refine Dx.out.mono ?_); rintro e w1 ⟨rfl, rfl⟩)
      | (go_at_call 17; (with_reducible refine Dp.out.mono ?_); rintro e w1 ⟨rfl, rfl⟩)
      | (go_at_call 17; (with_reducible refine Dq.out.mono ?_); rintro e w1 ⟨rfl, rfl⟩)
      | (go_at_call 17; (with_reducible refine Dr.out.mono ?_); rintro e w1 ⟨rfl, rfl⟩)
      | (go_at_call 17; (with_reducible refine D1.out.mono ?_); rintro e w1 ⟨rfl, rfl⟩)
      | (go_at_call 17; (with_reducible refine D2.out.mono ?_); rintro e w1 ⟨rfl, rfl⟩)
      | (go_at_call 17; (with_reducible refine D3.out.mono ?_); rintro e w1 ⟨rfl, rfl⟩)
      | (go_at_call 17; (with_reducible refine D4.out.mono ?_); rintro e w1 ⟨rfl, rfl⟩)
      | (go_at_call 17; (with_reducible refine D5.out.mono ?_); rintro e w1 ⟨rfl, rfl⟩)
      | (go_at_call 17; (with_reducible refine D6.out.mono ?_); rintro e w1 ⟨rfl, rfl⟩)
      | (go_at_call 17; (with_reducible refine D7.out.mono ?_); rintro e w1 ⟨rfl, rfl⟩)
      | (go_at_call 17; (with_reducible refine D8.out.mono ?_); rintro e w1 ⟨rfl, rfl⟩)
      | (go_at_call 13; (with_reducible refine CH.out.mono ?_); rintro e w1 ⟨rfl, rfl⟩))
    go_ret
    exact ⟨rfl, rfl⟩
  · have CH : Hid (Calls Tryd.prog 13 #[.int .i64 9, .int .u64 (a : Int), .int .u64 (b : Int)] w fun e w' => e = .returned (.tuple #[.bool true, .int .i64 0]) ∧ w = w') := by
      rw [show decide (u ≠ 0) = true by simp; omega] at C; exact Lib.hid C
    clear C
    have hz : ((u : Int) != 0) = true := by simp; omega
    go_enter Tryd.func8, Tryd.ntmps8
    go_wp2_with (first
      | (go_at_call 10; (with_reducible refine SH.out.mono ?_); rintro e w1 ⟨rfl, rfl⟩)
      | (go_at_call 17; (with_reducible refine Du.out.mono ?_); rintro e w1 ⟨rfl, rfl⟩)
      | (go_at_call 17; (with_reducible refine Dv.out.mono ?_); rintro e w1 ⟨rfl, rfl⟩)
      | (go_at_call 17; (with_reducible refine Dx.out.mono ?_); rintro e w1 ⟨rfl, rfl⟩)
      | (go_at_call 17; (with_reducible refine Dp.out.mono ?_); rintro e w1 ⟨rfl, rfl⟩)
      | (go_at_call 17; (with_reducible refine Dq.out.mono ?_); rintro e w1 ⟨rfl, rfl⟩)
      | (go_at_call 17; (with_reducible refine Dr.out.mono ?_); rintro e w1 ⟨rfl, rfl⟩)
      | (go_at_call 17; (with_reducible refine D1.out.mono ?_); rintro e w1 ⟨rfl, rfl⟩)
      | (go_at_call 17; (with_reducible refine D2.out.mono ?_); rintro e w1 ⟨rfl, rfl⟩)
      | (go_at_call 17; (with_reducible refine D3.out.mono ?_); rintro e w1 ⟨rfl, rfl⟩)
      | (go_at_call 17; (with_reducible refine D4.out.mono ?_); rintro e w1 ⟨rfl, rfl⟩)
      | (go_at_call 17; (with_reducible refine D5.out.mono ?_); rintro e w1 ⟨rfl, rfl⟩)
      | (go_at_call 17; (with_reducible refine D6.out.mono ?_); rintro e w1 ⟨rfl, rfl⟩)
      | (go_at_call 17; (with_reducible refine D7.out.mono ?_); rintro e w1 ⟨rfl, rfl⟩)
      | (go_at_call 17; (with_reducible refine D8.out.mono ?_); rintro e w1 ⟨rfl, rfl⟩)
      | (go_at_call 13; (with_reducible refine CH.out.mono ?_); rintro e w1 ⟨rfl, rfl⟩))
    go_ret
    exact ⟨rfl, rfl⟩
theorem bits7_walk (x0 x1 x2 : Int) (w : World) (h0 : (Lit.int .u64 x0).wf = true) (h1 : (Lit.int .u64 x1).wf = true) (h2 : (Lit.int .u64 x2).wf = true) (hT : Nots w) (_hB : True) :
    Calls Tryd.prog 8 #[.int .u64 x0, .int .u64 x1, .int .u64 x2] w fun e w' => e = .returned (.bool true) ∧ Below w.heap.size w w' := by
  obtain ⟨a0, rfl, b0⟩ := nat_u64 h0
  obtain ⟨a1, rfl, b1⟩ := nat_u64 h1
  obtain ⟨a2, rfl, b2⟩ := nat_u64 h2
  exact (bits7_nat a0 a1 a2 b0 b1 b2 w (Lib.hid hT)).mono fun _ _ h => ⟨h.1, by rw [← h.2]; exact Below.refl _ _⟩
end Go.Proofs.YtlkihmjaigojmaaDoor
