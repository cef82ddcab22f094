/- The walk of AluRing: it returns true, and nothing that was there has turned. Conditions: the numbers have at most 64 bits; Not's table lies in its block. -/
import Derived.Test.YtlkihmjaigojmaaDoorAShown
namespace Go.Proofs.YtlkihmjaigojmaaDoor
open Go.RowKit
set_option maxRecDepth 100000
theorem ring7_nat (a b c : Nat) (ha : a < 18446744073709551616) (hb : b < 18446744073709551616) (hc : c < 18446744073709551616) (w : World) (T : Hid (Nots w)) :
    Calls Tryd.prog 9 #[.int .u64 (a : Int), .int .u64 (b : Int), .int .u64 (c : Int)] w fun e w' => e = .returned (.bool true) ∧ w = w' := by
  have SH := Lib.hid (shown_any T)
  obtain ⟨s, hs, es, Ds⟩ := dw_new w 1 a b (by decide) ha hb
  obtain ⟨m, hm, em, Dm⟩ := dw_new w 3 a b (by decide) ha hb
  obtain ⟨t, ht, et, Dt⟩ := dw_new w 1 s c (by decide) hs hc
  obtain ⟨u, hu, eu, Du⟩ := dw_new w 1 b c (by decide) hb hc
  obtain ⟨p, hp, ep, Dp⟩ := dw_new w 3 m c (by decide) hm hc
  obtain ⟨q, hq, eq, Dq⟩ := dw_new w 3 b c (by decide) hb hc
  obtain ⟨r, hr, er, Dr⟩ := dw_new w 3 a u (by decide) ha hu
  obtain ⟨n, hn, en, Dn⟩ := dw_new w 3 a c (by decide) ha hc
  have h0 : 0 < 18446744073709551616 := by decide
  obtain ⟨z, hz, ez, Dz⟩ := dw_new w 2 0 a (by decide) h0 ha
  have D1 := dw_is w 1 b a (by decide) hb ha (v := s) (by rw [es]; show (b + a) % 18446744073709551616 = (a + b) % 18446744073709551616; rw [Nat.add_comm])
  have D2 := dw_is w 3 b a (by decide) hb ha (v := m) (by rw [em]; show b * a % 18446744073709551616 = a * b % 18446744073709551616; rw [Nat.mul_comm])
  have D3 := dw_is w 1 a u (by decide) ha hu (v := t) (by rw [et, eu, es]; show (a + (b + c) % 18446744073709551616) % 18446744073709551616 = ((a + b) % 18446744073709551616 + c) % 18446744073709551616; omega)
  have D4 := dw_is w 3 a q (by decide) ha hq (v := p) (by rw [ep, eq, em]; exact (l_mul3 a b c).symm)
  have D5 := dw_is w 1 m n (by decide) hm hn (v := r) (by rw [er, eu, em, en]; exact (l_spread a b c).symm)
  have D6 := dw_is w 2 0 z (by decide) h0 hz (v := a) (by rw [ez]; show (0 + (18446744073709551616 - (0 + (18446744073709551616 - a)) % 18446744073709551616)) % 18446744073709551616 = a; omega)
  have Dz : Hid (Calls Tryd.prog 17 #[.int .i64 2, .int .u64 0, .int .u64 (a : Int)] w fun e w' => e = .returned (.int .u64 (z : Nat)) ∧ w = w') := Dz
  have D6 : Hid (Calls Tryd.prog 17 #[.int .i64 2, .int .u64 0, .int .u64 (z : Int)] w fun e w' => e = .returned (.int .u64 (a : Nat)) ∧ w = w') := D6
  clear ha hb hc hs hm ht hu hp hq hr hn h0 hz es em et eu ep eq er en ez
  go_enter Tryd.func9, Tryd.ntmps9
  go_wp2_with (first
    | (go_at_call 10; (with_reducible refine SH.out.mono ?_); rintro e w1 ⟨rfl, rfl⟩)
    | (go_at_call 17; (with_reducible refine Ds.out.mono ?_); rintro e w1 ⟨rfl, rfl⟩)
    | (go_at_call 17; (with_reducible refine Dm.out.mono ?_); rintro e w1 ⟨rfl, rfl⟩)
    | (go_at_call 17; (with_reducible refine Dt.out.mono ?_); rintro e w1 ⟨rfl, rfl⟩)
    | (go_at_call 17; (with_reducible refine Du.out.mono ?_); rintro e w1 ⟨rfl, rfl⟩)
    | (go_at_call 17; (with_reducible refine Dp.out.mono ?_); rintro e w1 ⟨rfl, rfl⟩)
    | (go_at_call 17; (with_reducible refine Dq.out.mono ?_); rintro e w1 ⟨rfl, rfl⟩)
    | (go_at_call 17; (with_reducible refine Dr.out.mono ?_); rintro e w1 ⟨rfl, rfl⟩)
    | (go_at_call 17; (with_reducible refine Dn.out.mono ?_); rintro e w1 ⟨rfl, rfl⟩)
    | (go_at_call 17; (with_reducible refine Dz.out.mono ?_); rintro e w1 ⟨rfl, rfl⟩)
    | (go_at_call 17; (with_reducible refine D1.out.mono ?_); rintro e w1 ⟨rfl, rfl⟩)
    | (go_at_call 17; (with_reducible refine D2.out.mono ?_); rintro e w1 ⟨rfl, rfl⟩)
    | (go_at_call 17; (with_reducible refine D3.out.mono ?_); rintro e w1 ⟨rfl, rfl⟩)
    | (go_at_call 17; (with_reducible refine D4.out.mono ?_); rintro e w1 ⟨rfl, rfl⟩)
    | (go_at_call 17; (with_reducible refine D5.out.mono ?_); rintro e w1 ⟨rfl, rfl⟩)
    | (go_at_call 17; (with_reducible refine D6.out.mono ?_); rintro e w1 ⟨rfl, rfl⟩))
  go_ret
  exact ⟨rfl, rfl⟩
theorem ring7_walk (x0 x1 x2 : Int) (w : World) (h0 : (Lit.int .u64 x0).wf = true) (h1 : (Lit.int .u64 x1).wf = true) (h2 : (Lit.int .u64 x2).wf = true) (hT : Nots w) (_hB : True) :
    Calls Tryd.prog 9 #[.int .u64 x0, .int .u64 x1, .int .u64 x2] w fun e w' => e = .returned (.bool true) ∧ Below w.heap.size w w' := by
  obtain ⟨a0, rfl, b0⟩ := nat_u64 h0
  obtain ⟨a1, rfl, b1⟩ := nat_u64 h1
  obtain ⟨a2, rfl, b2⟩ := nat_u64 h2
  exact (ring7_nat a0 a1 a2 b0 b1 b2 w (Lib.hid hT)).mono fun _ _ h => ⟨h.1, by rw [← h.2]; exact Below.refl _ _⟩
end Go.Proofs.YtlkihmjaigojmaaDoor
