/- The walk of ArenaNobody: it returns true, and nothing that was there has turned. Condition: the table of widths lies in its block. -/
import Derived.Test.YtbdnijpbgbplaaaDoorShown
namespace Go.Proofs.YtbdnijpbgbplaaaDoor
open Go.RowKit

theorem nobody_refuses (at_ width v : Int) : ∃ er : Int, 1 ≤ er ∧ er ≤ 4 ∧
    Hid (∀ (w : World) (a A : Option Addr), Tab w → Mem w a A 0 → Calls Tryd.prog 12 #[.pointer a, .int .i64 at_, .int .i64 width] w fun e w' => e = .returned (.tuple #[.int .u64 0, .int .i64 er]) ∧ w = w') ∧
    Hid (∀ (w : World) (a A : Option Addr), Tab w → Mem w a A 0 → Calls Tryd.prog 14 #[.pointer a, .int .i64 at_, .int .i64 width, .int .u64 v] w fun e w' => e = .returned (.int .i64 er) ∧ w = w') := by
  cases hW : isW width with
  | false => exact ⟨1, by decide, by decide, fun w a A hT h => load_arg a at_ width hT hW, fun w a A hT h => store_arg a at_ width v hT hW⟩
  | true =>
    have := isW_bd hW
    exact ⟨4, by decide, by decide, fun w a A hT h => load_far a A 0 at_ width hT h (by decide) hW (by simp; omega), fun w a A hT h => store_far a A 0 at_ width v hT h (by decide) hW (by simp; omega)⟩

theorem nobody_len (w : World) (a A : Option Addr) (h : Mem w a A 0) : Calls Tryd.prog 11 #[.pointer a] w fun e w' => e = .returned (.int .i64 0) ∧ w = w' := len_any a A 0 w h
theorem nobody_fill1 (w : World) (a A : Option Addr) (at_ : Int) (h : Mem w a A 0) : Calls Tryd.prog 16 #[.pointer a, .int .i64 at_, .int .i64 1, .int .u8 1] w fun e w' => e = .returned (.int .i64 4) ∧ w = w' :=
  fill_far a A 0 at_ 1 1 h (by decide) (by decide) (by decide) (by simp; omega)
theorem nobody_fill0 (w : World) (a A : Option Addr) (h : Mem w a A 0) : Calls Tryd.prog 16 #[.pointer a, .int .i64 0, .int .i64 0, .int .u8 1] w fun e w' => e = .returned (.int .i64 0) ∧ w = w' :=
  fill_none a A 0 0 1 h (by decide) (by decide)

set_option maxRecDepth 100000 in
theorem nobody_walk (at_ width v : Int) (w : World) (hT : Tab w) (hB : 0 < w.heap.size) :
    Calls Tryd.prog 6 #[.int .i64 at_, .int .i64 width, .int .u64 v] w fun e w' => e = .returned (.bool true) ∧ Below w.heap.size w w' := by
  obtain ⟨er, he1, he4, HL, HS⟩ := nobody_refuses at_ width v
  have HT := Lib.hid hT
  clear hT
  go_enter Tryd.func6, Tryd.ntmps6
  go_wp2_with fail
  refine (shown_any HT.out hB).mono ?_
  rintro e w1 ⟨rfl, hb⟩
  have HB := Lib.hid hb
  have HB2 := Lib.hid (hb.alloc hb.size (.cells #[.slice none 0 0] 50))
  have T2 := Lib.hid (HT.out.below HB2.out hB)
  have M1 := Lib.hid (show Mem (w1.alloc (.cells #[.slice none 0 0] 50)) none none 0 from .inl ⟨rfl, rfl, rfl⟩)
  have M2 := Lib.hid (show Mem (w1.alloc (.cells #[.slice none 0 0] 50)) (some ⟨w1.heap.size, 0, none⟩) none 0 from .inr ⟨_, rfl, Blk.new _ _ _⟩)
  clear hb
  go_wp2_with fail
  go_loop [10] (fun i => ∃ k : Nat, k ≤ 2 ∧ i = .int .i64 k) (fun i => 2 - (intOf i).toNat)
  case atStart => exact ⟨0, by decide, rfl⟩
  case round =>
    obtain ⟨k, hk, rfl⟩ := hrel
    have hk3 : k = 0 ∨ k = 1 ∨ k = 2 := by omega
    rcases hk3 with rfl | rfl | rfl
    · go_wp2_with fail
      refine (HL.out _ _ _ T2.out M1.out).mono ?_
      rintro e w' ⟨rfl, rfl⟩
      go_wp2_with fail
      refine (HS.out _ _ _ T2.out M1.out).mono ?_
      rintro e w' ⟨rfl, rfl⟩
      go_wp2_with fail
      refine (nobody_len _ _ _ M1.out).mono ?_
      rintro e w' ⟨rfl, rfl⟩
      go_wp2_with fail
      refine (nobody_fill1 _ _ _ _ M1.out).mono ?_
      rintro e w' ⟨rfl, rfl⟩
      go_wp2_with fail
      refine (nobody_fill0 _ _ _ M1.out).mono ?_
      rintro e w' ⟨rfl, rfl⟩
      go_wp2
      go_round
      case rel => exact ⟨1, by decide, rfl⟩
      case measure => simp [intOf]
    · go_wp2_with fail
      refine (HL.out _ _ _ T2.out M2.out).mono ?_
      rintro e w' ⟨rfl, rfl⟩
      go_wp2_with fail
      refine (HS.out _ _ _ T2.out M2.out).mono ?_
      rintro e w' ⟨rfl, rfl⟩
      go_wp2_with fail
      refine (nobody_len _ _ _ M2.out).mono ?_
      rintro e w' ⟨rfl, rfl⟩
      go_wp2_with fail
      refine (nobody_fill1 _ _ _ _ M2.out).mono ?_
      rintro e w' ⟨rfl, rfl⟩
      go_wp2_with fail
      refine (nobody_fill0 _ _ _ M2.out).mono ?_
      rintro e w' ⟨rfl, rfl⟩
      go_wp2
      go_round
      case rel => exact ⟨2, by decide, rfl⟩
      case measure => simp [intOf]
    · go_wp2
      go_ret
      exact ⟨rfl, HB2.out⟩
end Go.Proofs.YtbdnijpbgbplaaaDoor
