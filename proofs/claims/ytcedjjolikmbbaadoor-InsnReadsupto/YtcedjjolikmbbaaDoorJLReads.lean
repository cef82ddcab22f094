/- InsnReads' walk. Conditions: the tables lie in their blocks; the text has at most 1048575 bytes. -/
import Derived.Test.YtcedjjolikmbbaaDoorJRead
import Derived.Test.YtcedjjolikmbbaaDoorIShown
import Derived.Test.YtcedjjolikmbbaaDoorIApart
import Derived.Test.YtcedjjolikmbbaaDoorIOpen
namespace Go.Proofs.YtcedjjolikmbbaaDoor
open Go.RowKit
set_option maxRecDepth 100000
set_option maxHeartbeats 2000000
section
variable {w : World}
theorem reads_walk (s : List UInt8) (hs : s.length ≤ 1048575) (T : Hid (Tabs w)) : Calls Tryd.prog 4 #[.string (st s)] w fun e w' => e = .returned (.bool true) ∧ Below w.heap.size w w' := by
  have RD := Lib.hid (fun (W : World) (T : Hid (Tabs W)) => read_any T s (by omega))
  have RR := Lib.hid (fun (W : World) => rread_any (w := W) s hs)
  unfold sv at RD
  obtain ⟨I, hI⟩ : ∃ I, rdV s = I := ⟨_, rfl⟩
  obtain ⟨E, hE⟩ : ∃ E, rdE s = E := ⟨_, rfl⟩
  rw [hI, hE] at RD RR
  clear hI hE
  have EQ := fun W => eq_insn W I I
  rw [decide_eq_true rfl] at EQ
  obtain ⟨op, a, b, c, im⟩ := I
  simp only [iv] at RD RR EQ
  go_enter Tryd.func4, Tryd.ntmps4
  go_wp2_with (go_at_call 10; (with_reducible refine (shown_any T).mono ?_); rintro e w1 ⟨rfl, hb1⟩; have X1 := Lib.hid hb1; have T1 := Lib.hid (T.out.out X1.out); clear hb1)
  go_wp2_with (go_at_call 15; (with_reducible refine (RD.out _ T1).mono ?_); rintro e w2 ⟨rfl, hb2⟩; have X2 := Lib.hid (X1.out.trans (hb2.mono X1.out.size)); obtain ⟨w3, hw3⟩ : ∃ w3, w3 = w2.alloc (.cells #[.int .u8 (op : Int), .int .u8 (a : Int), .int .u8 (b : Int), .int .u8 (c : Int), .int .u32 (im : Int)] 24) := ⟨_, rfl⟩; have X3 := Lib.hid (show Below w.heap.size w w3 by rw [hw3]; exact X2.out.alloc X2.out.size _); have KA := Lib.hid (show Blk w3 w2.heap.size 24 #[.int .u8 (op : Int), .int .u8 (a : Int), .int .u8 (b : Int), .int .u8 (c : Int), .int .u32 (im : Int)] by rw [hw3]; exact Blk.new _ _ _); have HW3 := Lib.hid hw3; clear hb2 hw3)
  go_wp2_with (go_at_call 16; rw [← HW3.out]; (with_reducible refine (RR.out _).mono ?_); rintro e w4 ⟨rfl, hb4⟩; have X4 := Lib.hid (X3.out.trans (hb4.mono X3.out.size)); have KA4 := Lib.hid (KA.out.below hb4 KA.out.lt); obtain ⟨w5, hw5⟩ : ∃ w5, w5 = w4.alloc (.cells #[.int .u8 (op : Int), .int .u8 (a : Int), .int .u8 (b : Int), .int .u8 (c : Int), .int .u32 (im : Int)] 24) := ⟨_, rfl⟩; have X5 := Lib.hid (show Below w.heap.size w w5 by rw [hw5]; exact X4.out.alloc X4.out.size _); have KB := Blk.new w4 24 #[.int .u8 (op : Int), .int .u8 (a : Int), .int .u8 (b : Int), .int .u8 (c : Int), .int .u32 (im : Int)]; have KA5 := KA4.out.alloc (.cells #[.int .u8 (op : Int), .int .u8 (a : Int), .int .u8 (b : Int), .int .u8 (c : Int), .int .u32 (im : Int)] 24); obtain ⟨q0, q1, q2, q3, q4⟩ := fiveB KA5; obtain ⟨r0, r1, r2, r3, r4⟩ := fiveB KB; have HW5 := Lib.hid hw5; clear hb4 hw5 KB KA5)
  go_ret
  exact ⟨rfl, by rw [← HW5.out]; exact X5.out⟩
theorem reads_row (a : ByteArray) (W : World) (h : a.data.toList.length ≤ 1048575) (T : Tabs W) : Calls Tryd.prog 4 #[.string a] W fun e w' => e = .returned (.bool true) ∧ Below W.heap.size W w' := by
  rw [sv_of]
  exact reads_walk _ h (Lib.hid T)
end
end Go.Proofs.YtcedjjolikmbbaaDoor
