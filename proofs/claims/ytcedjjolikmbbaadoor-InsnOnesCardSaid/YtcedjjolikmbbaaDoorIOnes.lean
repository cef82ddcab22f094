/- InsnOnes' walk. Conditions: the tables lie in their blocks; the instruction's numbers fit their kinds. -/
import Derived.Test.YtcedjjolikmbbaaDoorIBytesM
import Derived.Test.YtcedjjolikmbbaaDoorIShown
namespace Go.Proofs.YtcedjjolikmbbaaDoor
open Go.RowKit
set_option maxRecDepth 100000
set_option maxHeartbeats 1000000

theorem ri_one {w : World} {g : Nat} {i : In} (k : Blk w g 24 #[.int .u8 i.op, .int .u8 i.a, .int .u8 i.b, .int .u8 i.c, .int .u32 i.im]) (h : i.ok) : Ri w (some ⟨g, 0, none⟩) 1 1 [i] :=
  ⟨fun j f hj => by
    match j, hj with
    | 0, hj =>
      simp at hj
      subst hj
      exact ⟨g, 0, rfl, k.lt, h, k.cell 0, k.cell 1, k.cell 2, k.cell 3, k.cell 4⟩, rfl, Nat.le_refl _, by omega⟩
section
variable {w : World}
theorem ones_walk (i : In) (hi : i.ok) (T : Hid (Tabs w)) : Calls Tryd.prog 9 #[iv i] w fun e w' => e = .returned (.bool true) ∧ Below w.heap.size w w' := by
  have PE := Lib.hid (paE_one hi)
  have PL := Lib.hid (paL_one hi)
  have BY := Lib.hid (byI_byt (l := [i]) (by simpa using hi))
  have CK := Lib.hid (fun (W : World) (T : Hid (Tabs W)) => check_any T i hi)
  have TX := Lib.hid (fun (W : World) (T : Hid (Tabs W)) => text_any T i hi)
  have HI := Lib.hid hi
  have NE := Lib.hid (fun (h : ck i = 0) => tx_ne hi h)
  have NZ := Lib.hid (fun (h : ck i ≠ 0) => (show tx i = [] by unfold tx; rw [if_neg h]))
  have POK := Lib.hid (paL_ok BY.out)
  obtain ⟨S, hS⟩ : ∃ S, tx i = S := ⟨_, rfl⟩
  obtain ⟨E, hE⟩ : ∃ E, ck i = E := ⟨_, rfl⟩
  rw [hS, hE] at TX
  rw [hE] at CK PE PL
  rw [hS, hE] at NE NZ
  clear hS hE hi
  obtain ⟨op, a, b, c, im⟩ := i
  simp only [iv] at CK TX ⊢
  go_enter Tryd.func9, Tryd.ntmps9
  obtain ⟨w0, hw0⟩ : ∃ w0, w0 = w.alloc (.cells #[.int .u8 (op : Int), .int .u8 (a : Int), .int .u8 (b : Int), .int .u8 (c : Int), .int .u32 (im : Int)] 24) := ⟨_, rfl⟩
  have X0 := Lib.hid (show Below w.heap.size w w0 by rw [hw0]; go_grown)
  have KA := Lib.hid (show Blk w0 w.heap.size 24 #[.int .u8 (op : Int), .int .u8 (a : Int), .int .u8 (b : Int), .int .u8 (c : Int), .int .u32 (im : Int)] by rw [hw0]; exact Blk.new _ _ _)
  have T0 := Lib.hid (T.out.out X0.out)
  have HW0 := Lib.hid hw0
  clear hw0
  go_wp2_with (go_at_call 10; rw [← HW0.out]; (with_reducible refine (shown_any T0).mono ?_); rintro e w1 ⟨rfl, hb1⟩; have X1 := Lib.hid (X0.out.trans (hb1.mono X0.out.size)); have T1 := Lib.hid (T.out.out X1.out); have KA1 := Lib.hid (KA.out.below hb1 KA.out.lt); obtain ⟨q0, q1, q2, q3, q4, -⟩ := ten KA1.out; clear hb1)
  go_wp2_with (go_at_call 13; (with_reducible refine (CK.out _ T1).mono ?_); rintro e w2 ⟨rfl, hb2⟩; clear q0 q1 q2 q3 q4; have X2 := Lib.hid (X1.out.trans (hb2.mono X1.out.size)); have KA2 := Lib.hid (KA1.out.below hb2 KA1.out.lt); obtain ⟨q0, q1, q2, q3, q4, -⟩ := ten KA2.out; obtain ⟨w3, hw3⟩ : ∃ w3, w3 = w2.alloc (.cells #[.int .u8 (op : Int), .int .u8 (a : Int), .int .u8 (b : Int), .int .u8 (c : Int), .int .u32 (im : Int)] 24) := ⟨_, rfl⟩; have X3 := Lib.hid (show Below w.heap.size w w3 by rw [hw3]; exact X2.out.alloc X2.out.size _); have KA3 := Lib.hid (show Blk w3 w.heap.size _ _ by rw [hw3]; exact KA2.out.alloc _); have R3 := Lib.hid (ri_one (show Blk w3 w2.heap.size 24 #[.int .u8 (op : Int), .int .u8 (a : Int), .int .u8 (b : Int), .int .u8 (c : Int), .int .u32 (im : Int)] by rw [hw3]; exact Blk.new _ _ _) HI.out); have HW3 := Lib.hid hw3; clear hb2 hw3)
  go_wp2_with (go_at_call 20; rw [← HW3.out]; (with_reducible refine (bytes6_any _ _ _ _ R3.out (by omega)).mono ?_); rintro e w4 ⟨v4, rfl, ho4, hb4⟩; clear q0 q1 q2 q3 q4; obtain ⟨A4, k4, c4, rfl, hr4⟩ := ho4.form BY.out; have R4 := Lib.hid hr4; have X4 := Lib.hid (X3.out.trans (hb4.mono X3.out.size)); have T4 := Lib.hid (T.out.out X4.out); have KA4 := Lib.hid (KA3.out.below hb4 KA3.out.lt); clear ho4 hr4 hb4)
  go_wp2_with (go_at_call 17; (with_reducible refine (parse6_any T4 _ _ _ _ R4.out).mono ?_); rintro e w5 ⟨v5, rfl, ho5, hb5⟩; obtain ⟨A5, k5, c5, rfl, hr5⟩ := ho5.form POK.out; rw [PE.out]; have L5 := Lib.hid hr5.len; have X5 := Lib.hid (X4.out.trans (hb5.mono X4.out.size)); have T5 := Lib.hid (T.out.out X5.out); have KA5 := Lib.hid (KA4.out.below hb5 KA4.out.lt); obtain ⟨q0, q1, q2, q3, q4, -⟩ := ten KA5.out; clear ho5 hr5 hb5)
  rw [PL.out] at L5
  by_cases h0 : E = 0
  · have hk5 := L5.out
    rw [if_pos h0] at hk5
    obtain rfl : k5 = 1 := by simpa using hk5.symm
    have hne := NE.out h0
    have q : (st S).toList.isEmpty = false := by rw [ByteArray.toList_eq, st_data]; simpa using hne
    subst h0
    clear hk5 hne
    go_wp2_with (go_at_call 11; (with_reducible refine (TX.out _ T5).mono ?_); rintro e w6 ⟨rfl, hb6⟩; have X6 := Lib.hid (X5.out.trans (hb6.mono X5.out.size)); clear hb6; unfold sv)
    go_ret
    exact ⟨rfl, X6.out⟩
  · have hk5 := L5.out
    rw [if_neg h0] at hk5
    obtain rfl : k5 = 0 := by simpa using hk5.symm
    obtain rfl := NZ.out h0
    have n0 : ((E : Int) == 0) = false := by simp; omega
    clear hk5 h0
    go_wp2_with (go_at_call 11; (with_reducible refine (TX.out _ T5).mono ?_); rintro e w6 ⟨rfl, hb6⟩; have X6 := Lib.hid (X5.out.trans (hb6.mono X5.out.size)); clear hb6; unfold sv st)
    go_ret
    exact ⟨rfl, X6.out⟩
theorem ones_row (i : In) (W : World) (hi : i.ok) (T : Tabs W) : Calls Tryd.prog 9 #[iv i] W fun e w' => e = .returned (.bool true) ∧ Below W.heap.size W w' := ones_walk i hi (Lib.hid T)
end
end Go.Proofs.YtcedjjolikmbbaaDoor
