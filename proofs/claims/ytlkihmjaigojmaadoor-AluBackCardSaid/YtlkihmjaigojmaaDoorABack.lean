/- The walk of AluBack: it returns true, and nothing that was there has turned. Conditions: the numbers have at most 64 bits; Not's table lies in its block. -/
import Derived.Test.YtlkihmjaigojmaaDoorAShown
namespace Go.Proofs.YtlkihmjaigojmaaDoor
open Go.RowKit
set_option maxRecDepth 100000
theorem back7_nat (a b : Nat) (ha : a < 18446744073709551616) (hb : b < 18446744073709551616) (w : World) (T : Hid (Nots w)) :
    Calls Tryd.prog 5 #[.int .u64 (a : Int), .int .u64 (b : Int)] w fun e w' => e = .returned (.bool true) ∧ w = w' := by
  have SH := Lib.hid (shown_any T)
  obtain ⟨q, hq, eq, Dq⟩ := dw_new w 4 a b (by decide) ha hb
  obtain ⟨r, hr, er, Dr⟩ := dw_new w 5 a b (by decide) ha hb
  obtain ⟨s, hs, es, Ds⟩ := dw_new w 1 a b (by decide) ha hb
  obtain ⟨x, hx, ex, Dx⟩ := dw_new w 8 a b (by decide) ha hb
  obtain ⟨m, hm, em, Dm⟩ := dw_new w 3 q b (by decide) hq hb
  obtain ⟨u, hu, eu, Du⟩ := dw_new w 6 a b (by decide) ha hb
  obtain ⟨v, hv, ev, Dv⟩ := dw_new w 7 a b (by decide) ha hb
  have D1 := dw_is w 2 s b (by decide) hs hb (v := a) (by rw [es]; exact l_addsub ha hb)
  have D2 := dw_is w 8 x b (by decide) hx hb (v := a) (by rw [ex]; exact l_xor2 a b)
  have D3 := dw_is w 1 m r (by decide) hm hr (v := a) (by rw [em, eq, er]; exact l_quot b ha)
  have D4 := dw_is w 1 u v (by decide) hu hv (v := s) (by rw [eu, ev, es]; exact l_andor ha hb)
  have hr2 : b = 0 ∨ (¬ b = 0 ∧ r < b) := by
    rcases Nat.eq_zero_or_pos b with h | h
    · exact .inl h
    · exact .inr ⟨by omega, by rw [er]; exact l_rest (by omega)⟩
  clear ha hb hq hr hs hx hm hu hv eq er es ex em eu ev
  rcases hr2 with h | ⟨h, h2⟩
  · subst h
    simp only [Dw, Int.natCast_zero] at Dq Dr Ds Dx Dm Du Dv D1 D2
    go_enter Tryd.func5, Tryd.ntmps5
    go_wp2_with (first
      | (go_at_call 10; (with_reducible refine SH.out.mono ?_); rintro e w1 ⟨rfl, rfl⟩)
      | (go_at_call 17; (with_reducible refine Dq.out.mono ?_); rintro e w1 ⟨rfl, rfl⟩)
      | (go_at_call 17; (with_reducible refine Dr.out.mono ?_); rintro e w1 ⟨rfl, rfl⟩)
      | (go_at_call 17; (with_reducible refine Ds.out.mono ?_); rintro e w1 ⟨rfl, rfl⟩)
      | (go_at_call 17; (with_reducible refine Dx.out.mono ?_); rintro e w1 ⟨rfl, rfl⟩)
      | (go_at_call 17; (with_reducible refine Dm.out.mono ?_); rintro e w1 ⟨rfl, rfl⟩)
      | (go_at_call 17; (with_reducible refine Du.out.mono ?_); rintro e w1 ⟨rfl, rfl⟩)
      | (go_at_call 17; (with_reducible refine Dv.out.mono ?_); rintro e w1 ⟨rfl, rfl⟩)
      | (go_at_call 17; (with_reducible refine D1.out.mono ?_); rintro e w1 ⟨rfl, rfl⟩)
      | (go_at_call 17; (with_reducible refine D2.out.mono ?_); rintro e w1 ⟨rfl, rfl⟩)
      | (go_at_call 17; (with_reducible refine D3.out.mono ?_); rintro e w1 ⟨rfl, rfl⟩)
      | (go_at_call 17; (with_reducible refine D4.out.mono ?_); rintro e w1 ⟨rfl, rfl⟩))
    go_ret
    exact ⟨rfl, rfl⟩
  · have h : ((b : Int) == 0) = false := by simp; omega
    have h2 : decide (r < b) = true := by simpa using h2
    go_enter Tryd.func5, Tryd.ntmps5
    go_wp2_with (first
      | (go_at_call 10; (with_reducible refine SH.out.mono ?_); rintro e w1 ⟨rfl, rfl⟩)
      | (go_at_call 17; (with_reducible refine Dq.out.mono ?_); rintro e w1 ⟨rfl, rfl⟩)
      | (go_at_call 17; (with_reducible refine Dr.out.mono ?_); rintro e w1 ⟨rfl, rfl⟩)
      | (go_at_call 17; (with_reducible refine Ds.out.mono ?_); rintro e w1 ⟨rfl, rfl⟩)
      | (go_at_call 17; (with_reducible refine Dx.out.mono ?_); rintro e w1 ⟨rfl, rfl⟩)
      | (go_at_call 17; (with_reducible refine Dm.out.mono ?_); rintro e w1 ⟨rfl, rfl⟩)
      | (go_at_call 17; (with_reducible refine Du.out.mono ?_); rintro e w1 ⟨rfl, rfl⟩)
      | (go_at_call 17; (with_reducible refine Dv.out.mono ?_); rintro e w1 ⟨rfl, rfl⟩)
      | (go_at_call 17; (with_reducible refine D1.out.mono ?_); rintro e w1 ⟨rfl, rfl⟩)
      | (go_at_call 17; (with_reducible refine D2.out.mono ?_); rintro e w1 ⟨rfl, rfl⟩)
      | (go_at_call 17; (with_reducible refine D3.out.mono ?_); rintro e w1 ⟨rfl, rfl⟩)
      | (go_at_call 17; (with_reducible refine D4.out.mono ?_); rintro e w1 ⟨rfl, rfl⟩))
    go_ret
    exact ⟨rfl, rfl⟩
theorem back7_walk (x0 x1 : Int) (w : World) (h0 : (Lit.int .u64 x0).wf = true) (h1 : (Lit.int .u64 x1).wf = true) (hT : Nots w) (_hB : True) :
    Calls Tryd.prog 5 #[.int .u64 x0, .int .u64 x1] w fun e w' => e = .returned (.bool true) ∧ Below w.heap.size w w' := by
  obtain ⟨a0, rfl, b0⟩ := nat_u64 h0
  obtain ⟨a1, rfl, b1⟩ := nat_u64 h1
  exact (back7_nat a0 a1 b0 b1 w (Lib.hid hT)).mono fun _ _ h => ⟨h.1, by rw [← h.2]; exact Below.refl _ _⟩
end Go.Proofs.YtlkihmjaigojmaaDoor
