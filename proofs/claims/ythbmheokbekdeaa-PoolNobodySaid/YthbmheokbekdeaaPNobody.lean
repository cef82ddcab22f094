/- The walk of PoolNobody: it returns true, and nothing that was there has turned. No condition. -/
import Derived.Test.YthbmheokbekdeaaPShown
namespace Go.Proofs.Ythbmheokbekdeaa
open Go.RowKit

section
variable {w : World}
theorem nobody_taken (a : Option Addr) (page : Int) (h : Po w a 0 (fun _ => false)) :
    Calls Try.prog 18 #[.pointer a, .int .i64 page] w fun e w' => e = .returned (.bool false) ∧ ∃ m, w' = w.drewN m :=
  taken_no a 0 _ page h (by omega)
theorem nobody_give (a : Option Addr) (page : Int) (h : Po w a 0 (fun _ => false)) :
    Calls Try.prog 14 #[.pointer a, .int .i64 page] w fun e w' => e = .returned (.int .i64 1) ∧ w = w' :=
  give_arg a 0 _ page h (by omega)
theorem nobody_len (a : Option Addr) (h : Po w a 0 (fun _ => false)) :
    Calls Try.prog 19 #[.pointer a] w fun e w' => e = .returned (.int .i64 0) ∧ w = w' := len_any a 0 _ h
theorem nobody_free (a : Option Addr) (h : Po w a 0 (fun _ => false)) :
    Calls Try.prog 16 #[.pointer a] w fun e w' => e = .returned (.int .i64 0) ∧ w = w' := free_any a 0 _ h
set_option maxRecDepth 100000 in
theorem nobody_walk (page : Int) (w : World) :
    Calls Try.prog 6 #[.int .i64 page] w fun e w' => e = .returned (.bool true) ∧ Below w.heap.size w w' := by
  go_enter Try.func6, Try.ntmps6
  go_wp2_with fail
  refine shown_any.mono ?_
  rintro e w1 ⟨rfl, hb⟩
  have HB2 := Lib.hid (hb.alloc hb.size (.cells #[.int .i64 0, .int .u64 0, .int .u64 0] 50))
  have M1 := Lib.hid (show Po (w1.alloc (.cells #[.int .i64 0, .int .u64 0, .int .u64 0] 50)) none 0 (fun _ => false) from .inl ⟨rfl, rfl, rfl⟩)
  have M2 := Lib.hid (show Po (w1.alloc (.cells #[.int .i64 0, .int .u64 0, .int .u64 0] 50)) (some ⟨w1.heap.size, 0, none⟩) 0 (fun _ => false) from .inr ⟨_, rfl, by rw [words_none]; exact Blk.new _ _ _, by decide, fun _ _ => rfl⟩)
  clear hb
  go_wp2_with fail
  go_loopg [6] 2 (fun g i wr => ∃ k m : Nat, k + g = 2 ∧ i = .int .i64 k ∧ wr = (w1.alloc (.cells #[.int .i64 0, .int .u64 0, .int .u64 0] 50)).drewN m)
  case atStart => exact ⟨0, 0, by decide, rfl, rfl⟩
  case round =>
    obtain ⟨k, m, hk, rfl, rfl⟩ := hrel
    have hk3 : k = 0 ∨ k = 1 ∨ k = 2 := by omega
    rcases hk3 with rfl | rfl | rfl
    · go_wp2_with (first
        | (go_at_call 11; refine (take_nobody _ _ (M1.out.drew _)).mono ?_; rintro e w' ⟨rfl, m2, rfl⟩)
        | (go_at_call 13; refine (takeRun_nobody _ _ (M1.out.drew _)).mono ?_; rintro e w' ⟨rfl, m3, rfl⟩)
        | (go_at_call 19; refine (nobody_len _ (M1.out.drew _)).mono ?_; rintro e w' ⟨rfl, rfl⟩)
        | (go_at_call 16; refine (nobody_free _ (M1.out.drew _)).mono ?_; rintro e w' ⟨rfl, rfl⟩)
        | (go_at_call 18; refine (nobody_taken _ _ (M1.out.drew _)).mono ?_; rintro e w' ⟨rfl, m4, rfl⟩)
        | (go_at_call 14; refine (nobody_give _ _ (M1.out.drew _)).mono ?_; rintro e w' ⟨rfl, rfl⟩))
      go_roundg 1
      case measure => omega
      case rel => exact ⟨1, _, by decide, rfl, rfl⟩
    · go_wp2_with (first
        | (go_at_call 11; refine (take_nobody _ _ (M2.out.drew _)).mono ?_; rintro e w' ⟨rfl, m2, rfl⟩)
        | (go_at_call 13; refine (takeRun_nobody _ _ (M2.out.drew _)).mono ?_; rintro e w' ⟨rfl, m3, rfl⟩)
        | (go_at_call 19; refine (nobody_len _ (M2.out.drew _)).mono ?_; rintro e w' ⟨rfl, rfl⟩)
        | (go_at_call 16; refine (nobody_free _ (M2.out.drew _)).mono ?_; rintro e w' ⟨rfl, rfl⟩)
        | (go_at_call 18; refine (nobody_taken _ _ (M2.out.drew _)).mono ?_; rintro e w' ⟨rfl, m4, rfl⟩)
        | (go_at_call 14; refine (nobody_give _ _ (M2.out.drew _)).mono ?_; rintro e w' ⟨rfl, rfl⟩))
      go_roundg 0
      case measure => omega
      case rel => exact ⟨2, _, by decide, rfl, rfl⟩
    · go_wp2
      go_ret
      exact ⟨rfl, below_drewN HB2.out _⟩
end
end Go.Proofs.Ythbmheokbekdeaa
