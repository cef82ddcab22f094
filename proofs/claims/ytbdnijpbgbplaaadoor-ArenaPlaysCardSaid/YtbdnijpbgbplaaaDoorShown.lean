/- The contract of the document's examples ('shown'): it returns true, and nothing that was there has turned. Condition: the table of widths lies in its block. -/
import Derived.Test.YtbdnijpbgbplaaaDoorCalls
namespace Go.Proofs.YtbdnijpbgbplaaaDoor
open Go.RowKit

section
variable {w : World}
theorem new16 : Calls Tryd.prog 10 #[.int .i64 16] w fun e w' => e = .returned (.tuple #[.pointer (some ⟨w.heap.size + 1, 0, none⟩), .int .i64 0]) ∧ Ar w' (w.heap.size + 1) w.heap.size 16 (fun _ => 0) ∧ w'.heap.size = w.heap.size + 2 ∧ Below w.heap.size w w' :=
  new_ok 16 (by decide)
theorem store44 (p g : Nat) (f : Nat → Int) (hT : Tab w) (h : Ar w p g 16 f) : Calls Tryd.prog 14 #[.pointer (some ⟨p, 0, none⟩), .int .i64 4, .int .i64 4, .int .u64 305419896] w fun e w' => e = .returned (.int .i64 0) ∧ Ar w' p g 16 (st f 4 305419896 4) ∧ Only g w w' :=
  store_ok p g 16 f 4 4 305419896 hT h (by decide) (by decide) (by decide)
theorem bytes44 (p g : Nat) (f : Nat → Int) (h : Ar w p g 16 f) : Calls Tryd.prog 18 #[.pointer (some ⟨p, 0, none⟩), .int .i64 4, .int .i64 4] w fun e w' =>
      e = .returned (.tuple #[.slice (some ⟨w.heap.size, 0, none⟩) 4 4, .int .i64 0]) ∧ Blk w' w.heap.size 5 (row 4 fun i => f (4 + i)) ∧ Below w.heap.size w w' :=
  bytes_ok p g 16 f 4 4 h (by decide)
theorem load42 (p g : Nat) (f : Nat → Int) (hT : Tab w) (h : Ar w p g 16 f) : Calls Tryd.prog 12 #[.pointer (some ⟨p, 0, none⟩), .int .i64 4, .int .i64 2] w fun e w' => e = .returned (.tuple #[.int .u64 (ld f 4 2), .int .i64 0]) ∧ w = w' :=
  load_ok p g 16 f 4 2 hT h (by decide) (by decide)
theorem load152 (p g : Nat) (f : Nat → Int) (hT : Tab w) (h : Ar w p g 16 f) : Calls Tryd.prog 12 #[.pointer (some ⟨p, 0, none⟩), .int .i64 15, .int .i64 2] w fun e w' => e = .returned (.tuple #[.int .u64 0, .int .i64 4]) ∧ w = w' :=
  load_far _ _ 16 15 2 hT h.mem (by decide) (by decide) (by decide)
theorem load03 (p : Nat) (hT : Tab w) : Calls Tryd.prog 12 #[.pointer (some ⟨p, 0, none⟩), .int .i64 0, .int .i64 3] w fun e w' => e = .returned (.tuple #[.int .u64 0, .int .i64 1]) ∧ w = w' :=
  load_arg _ 0 3 hT (by decide)

set_option maxRecDepth 100000 in
theorem shown_any (hT : Tab w) (hB : 0 < w.heap.size) : Calls Tryd.prog 9 #[] w fun e w' => e = .returned (.bool true) ∧ Below w.heap.size w w' := by
  have HT := Lib.hid hT
  clear hT
  go_enter Tryd.func9, Tryd.ntmps9
  go_wp2_with fail
  refine new16.mono ?_
  rintro e w1 ⟨rfl, hA, hz, hb⟩
  have HA := Lib.hid hA
  have HZ := Lib.hid hz
  have HB := Lib.hid hb
  have T1 := Lib.hid (HT.out.below hb hB)
  clear hA hz hb
  go_wp2_with fail
  refine (store44 _ _ _ T1.out HA.out).mono ?_
  rintro e w2 ⟨rfl, hA, ho⟩
  have HA2 := Lib.hid hA
  have HB2 := Lib.hid (HB.out.trans (ho.below (Nat.le_refl _)))
  have T2 := Lib.hid (HT.out.below HB2.out hB)
  clear hA ho
  go_wp2_with fail
  refine (bytes44 _ _ _ HA2.out).mono ?_
  rintro e w3 ⟨rfl, hk, hb⟩
  have HK := Lib.hid hk
  have HB3 := Lib.hid (HB2.out.trans (hb.mono HB2.out.size))
  have HA3 := Lib.hid (HA2.out.below hb HA2.out.head.lt HA2.out.body.lt)
  have T3 := Lib.hid (HT.out.below HB3.out hB)
  clear hk hb
  go_wp2_with fail
  refine (load42 _ _ _ T3.out HA3.out).mono ?_
  rintro e w' ⟨rfl, rfl⟩
  have e2 : ld (st (fun _ => 0) 4 305419896 4) 4 2 = 22136 := by decide
  rw [e2]
  clear e2
  go_wp2_with fail
  refine (load152 _ _ _ T3.out HA3.out).mono ?_
  rintro e w' ⟨rfl, rfl⟩
  go_wp2_with fail
  refine (load03 _ T3.out).mono ?_
  rintro e w' ⟨rfl, rfl⟩
  have hs := run_string (w := w3) w2.heap.size 0 4 4 4 _ (fun i => HA2.out.byte (4 + i)) HK.out (by decide)
  have e3 : (strOf 4 fun i => st (fun _ => 0) 4 305419896 4 (4 + (0 + i))) = ⟨#[120, 86, 52, 18]⟩ := by decide +kernel
  rw [e3] at hs
  clear e3
  go_wp2
  go_ret
  exact ⟨rfl, HB3.out⟩
end
end Go.Proofs.YtbdnijpbgbplaaaDoor
