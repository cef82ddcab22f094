/- InsnApart's walk. Conditions: the tables lie in their blocks; the instructions' numbers fit their kinds; the text has fewer than 4294967281 bytes. -/
import Derived.Test.YtcedjjolikmbbaaDoorIShown
namespace Go.Proofs.YtcedjjolikmbbaaDoor
open Go.RowKit
set_option maxRecDepth 100000
set_option maxHeartbeats 1000000

theorem eq_insn (W : World) (i j : In) : (Op.equalIn 10000 24 (.agg #[.int .u8 (i.op : Int), .int .u8 (i.a : Int), .int .u8 (i.b : Int), .int .u8 (i.c : Int), .int .u32 (i.im : Int)]) (.agg #[.int .u8 (j.op : Int), .int .u8 (j.a : Int), .int .u8 (j.b : Int), .int .u8 (j.c : Int), .int .u32 (j.im : Int)])).run Tryd.prog W = .ok (decide (i = j)) W := by
  have e : decide (i = j) = (((i.op : Int) == j.op) && (((i.a : Int) == j.a) && (((i.b : Int) == j.b) && (((i.c : Int) == j.c) && ((i.im : Int) == j.im))))) := by
    obtain ⟨_, _, _, _, _⟩ := i
    obtain ⟨_, _, _, _, _⟩ := j
    rw [Bool.eq_iff_iff]
    simp
    omega
  rw [e]
  go_simp
  repeat' split
  all_goals simp_all
section
variable {w : World}
theorem apart_walk (i j : In) (s : List UInt8) (hi : i.ok) (hj : j.ok) (hs : s.length < 4294967281) (T : Hid (Tabs w)) : Calls Tryd.prog 7 #[iv i, iv j, sv s] w fun e w' => e = .returned (.bool true) ∧ Below w.heap.size w w' := by
  have EQ := Lib.hid (eq_insn · i j)
  have HI := Lib.hid hi
  have HJ := Lib.hid hj
  have TXI := Lib.hid (fun (W : World) (T : Hid (Tabs W)) => text_any T i hi)
  have TXJ := Lib.hid (fun (W : World) (T : Hid (Tabs W)) => text_any T j hj)
  have RDS := Lib.hid (fun (W : World) (T : Hid (Tabs W)) => read_any T s hs)
  unfold sv at RDS
  have INJ := Lib.hid (fun (h1 : ck i = 0) (h2 : ck j = 0) => tx_inj hi hj h1 h2)
  obtain ⟨S1, hS1⟩ : ∃ S, tx i = S := ⟨_, rfl⟩
  obtain ⟨S2, hS2⟩ : ∃ S, tx j = S := ⟨_, rfl⟩
  obtain ⟨E1, hE1⟩ : ∃ S, ck i = S := ⟨_, rfl⟩
  obtain ⟨E2, hE2⟩ : ∃ S, ck j = S := ⟨_, rfl⟩
  rw [hS1, hE1] at TXI
  rw [hS2, hE2] at TXJ
  rw [hS1, hS2, hE1, hE2] at INJ
  clear hS1 hS2 hE1 hE2 hi hj
  obtain ⟨op, a, b, c, im⟩ := i
  obtain ⟨op', a', b', c', im'⟩ := j
  simp only [iv] at *
  unfold sv
  go_enter Tryd.func7, Tryd.ntmps7
  obtain ⟨w0, hw0⟩ : ∃ w0, w0 = (w.alloc (.cells #[.int .u8 (op : Int), .int .u8 (a : Int), .int .u8 (b : Int), .int .u8 (c : Int), .int .u32 (im : Int)] 24)).alloc (.cells #[.int .u8 (op' : Int), .int .u8 (a' : Int), .int .u8 (b' : Int), .int .u8 (c' : Int), .int .u32 (im' : Int)] 24) := ⟨_, rfl⟩
  have X0 := Lib.hid (show Below w.heap.size w w0 by rw [hw0]; go_grown)
  have KA := Lib.hid (show Blk w0 w.heap.size 24 #[.int .u8 (op : Int), .int .u8 (a : Int), .int .u8 (b : Int), .int .u8 (c : Int), .int .u32 (im : Int)] by rw [hw0]; exact (Blk.new _ _ _).alloc _)
  have KB := Lib.hid (show Blk w0 (w.heap.size + 1) 24 #[.int .u8 (op' : Int), .int .u8 (a' : Int), .int .u8 (b' : Int), .int .u8 (c' : Int), .int .u32 (im' : Int)] by rw [hw0]; exact two_new _ _ _ _ _)
  have T0 := Lib.hid (T.out.out X0.out)
  have HW0 := Lib.hid hw0
  clear hw0
  go_wp2_with (go_at_call 10; rw [← HW0.out]; (with_reducible refine (shown_any T0).mono ?_); rintro e w1 ⟨rfl, hb1⟩; have X1 := Lib.hid (X0.out.trans (hb1.mono X0.out.size)); have T1 := Lib.hid (T.out.out X1.out); have KA1 := Lib.hid (KA.out.below hb1 KA.out.lt); have KB1 := Lib.hid (KB.out.below hb1 KB.out.lt); obtain ⟨q0, q1, q2, q3, q4, -⟩ := ten KA1.out; clear hb1)
  go_wp2_with (go_at_call 11; (with_reducible refine (TXI.out _ T1).mono ?_); rintro e w2 ⟨rfl, hb2⟩; clear q0 q1 q2 q3 q4; have X2 := Lib.hid (X1.out.trans (hb2.mono X1.out.size)); have T2 := Lib.hid (T.out.out X2.out); have KA2 := Lib.hid (KA1.out.below hb2 KA1.out.lt); have KB2 := Lib.hid (KB1.out.below hb2 KB1.out.lt); obtain ⟨q0, q1, q2, q3, q4, -⟩ := ten KB2.out; clear hb2; unfold sv)
  go_upto_region 4 with (go_at_call 11; (with_reducible refine (TXJ.out _ T2).mono ?_); rintro e w3 ⟨rfl, hb3⟩; clear q0 q1 q2 q3 q4; have X3 := Lib.hid (X2.out.trans (hb3.mono X2.out.size)); have T3 := Lib.hid (T.out.out X3.out); have KA3 := Lib.hid (KA2.out.below hb3 KA2.out.lt); have KB3 := Lib.hid (KB2.out.below hb3 KB2.out.lt); clear hb3; unfold sv)
  go_cut [41] from 27 to 40 (fun v wx => v = .bool false ∧ wx = w3)
  case first =>
    obtain ⟨q0, q1, q2, q3, q4, -⟩ := ten KA3.out
    obtain ⟨d0, d1, d2, d3, d4, -⟩ := ten KB3.out
    by_cases c1 : E1 = 0
    · by_cases c2 : E2 = 0
      · by_cases hij : (⟨op, a, b, c, im⟩ : In) = ⟨op', a', b', c', im'⟩
        · have hS := (INJ.out c1 c2).2 hij
          simp only [In.mk.injEq] at hij
          obtain ⟨rfl, rfl, rfl, rfl, rfl⟩ := hij
          subst c1 c2 hS
          go_wp2_with fail
          go_meet
          exact ⟨rfl, rfl⟩
        · have hS : S1 ≠ S2 := fun e => hij ((INJ.out c1 c2).1 e)
          have q := str_ne (fun e => hS (st_inj e) : st S1 ≠ st S2)
          have eq := fun W => EQ.out W
          rw [decide_eq_false hij] at eq
          subst c1 c2
          clear hS hij
          go_wp2_with fail
          go_meet
          exact ⟨rfl, rfl⟩
      · have n2 : ((E2 : Int) == 0) = false := by simp; omega
        subst c1
        clear c2
        go_wp2_with fail
        go_meet
        exact ⟨rfl, rfl⟩
    · have n1 : ((E1 : Int) == 0) = false := by simp; omega
      clear c1
      go_wp2_with fail
      go_meet
      exact ⟨rfl, rfl⟩
  case rest =>
  obtain ⟨rfl, rfl⟩ := hcut
  cases hr : rd s with
  | none =>
    have hv : rdV s = in0 := by unfold rdV; rw [hr]; rfl
    have he : rdE s = 3 := by unfold rdE; rw [hr]; rfl
    have RD := Lib.hid (RDS.out _ T3)
    rw [hv, he] at RD
    simp only [in0] at RD
    clear hr hv he
    go_wp2_with (go_at_call 15; (with_reducible refine RD.out.mono ?_); rintro e w4 ⟨rfl, hb4⟩; have X4 := Lib.hid (X3.out.trans (hb4.mono X3.out.size)); clear hb4)
    go_ret
    exact ⟨rfl, X4.out.alloc X4.out.size _⟩
  | some x =>
    have hv : rdV s = x := by unfold rdV; rw [hr]; rfl
    have he : rdE s = 0 := by unfold rdE; rw [hr]; rfl
    obtain ⟨hx, hck, htx⟩ := tx_rd hr
    have RD := Lib.hid (RDS.out _ T3)
    rw [hv, he] at RD
    have TX := Lib.hid (fun (W : World) (T : Hid (Tabs W)) => text_any T x hx)
    have CX := Lib.hid (fun (W : World) (T : Hid (Tabs W)) => check_any T x hx)
    rw [htx, hck] at TX
    rw [hck] at CX
    clear hr hv he hx hck htx
    obtain ⟨op2, a2, b2, c2, im2⟩ := x
    simp only [iv] at RD TX CX
    go_wp2_with (go_at_call 15; (with_reducible refine RD.out.mono ?_); rintro e w4 ⟨rfl, hb4⟩; have X4 := Lib.hid (X3.out.trans (hb4.mono X3.out.size)); obtain ⟨w5, hw5⟩ : ∃ w5, w5 = w4.alloc (.cells #[.int .u8 (op2 : Int), .int .u8 (a2 : Int), .int .u8 (b2 : Int), .int .u8 (c2 : Int), .int .u32 (im2 : Int)] 24) := ⟨_, rfl⟩; have X5 := Lib.hid (show Below w.heap.size w w5 by rw [hw5]; exact X4.out.alloc X4.out.size _); have KX := Lib.hid (show Blk w5 w4.heap.size 24 #[.int .u8 (op2 : Int), .int .u8 (a2 : Int), .int .u8 (b2 : Int), .int .u8 (c2 : Int), .int .u32 (im2 : Int)] by rw [hw5]; exact Blk.new _ _ _); have HW5 := Lib.hid hw5; have T5 := Lib.hid (T.out.out X5.out); clear hb4 hw5)
    go_wp2_with (go_at_call 11; rw [← HW5.out]; (with_reducible refine (TX.out _ T5).mono ?_); rintro e w6 ⟨rfl, hb6⟩; have X6 := Lib.hid (X5.out.trans (hb6.mono X5.out.size)); have T6 := Lib.hid (T.out.out X6.out); have KX6 := Lib.hid (KX.out.below hb6 KX.out.lt); obtain ⟨q0, q1, q2, q3, q4, -⟩ := ten KX6.out; clear hb6; unfold sv)
    go_wp2_with (go_at_call 13; (with_reducible refine (CX.out _ T6).mono ?_); rintro e w7 ⟨rfl, hb7⟩; have X7 := Lib.hid (X6.out.trans (hb7.mono X6.out.size)); clear hb7)
    go_ret
    exact ⟨rfl, X7.out⟩
end
end Go.Proofs.YtcedjjolikmbbaaDoor
