/- The walk of SlabNobody: it returns true, and nothing that was there has turned. Condition: the tables lie in their blocks. -/
import Derived.Test.YthblpnnbkjhmhaaDoorSBag
namespace Go.Proofs.YthblpnnbkjhmhaaDoor
open Go.RowKit

set_option maxRecDepth 100000 in
theorem nobody_walk (size at_ : Int) (w : World) (hT : Tbs w) (_hB : True) :
    Calls Tryd.prog 6 #[.int .i64 size, .int .i64 at_] w fun e w' => e = .returned (.bool true) ∧ Below w.heap.size w w' := by
  have HT := Lib.hid hT
  clear hT
  have hcase : (size < 1 ∨ 256 < size) ∨ (1 ≤ size ∧ size ≤ 256) := by omega
  rcases hcase with hs | hs
  · have e1 : nbE size = 1 := by unfold nbE; rw [(cof_no hs).2]; rfl
    have E1 := Lib.hid e1
    clear e1
    rcases hs with hs | hs
    · have hd : decide (size < 1) = true := decide_eq_true hs
      go_enter Tryd.func6, Tryd.ntmps6
      go_wp2_with fail
      refine (shownS_any HT.out).mono ?_
      rintro e w1 ⟨rfl, hb⟩
      have H1 := Lib.hid (HT.out.below hb)
      have B1 := Lib.hid hb
      clear hb
      go_wp2_with fail
      refine (alloc_nil size H1.out.cl).mono ?_
      rw [E1.out]
      rintro e w2 ⟨rfl, hb⟩
      have B2 := Lib.hid (B1.out.trans (hb.mono B1.out.size))
      clear hb
      go_wp2_with (first | (go_at_call 25; refine (block_nil _).mono ?_; rintro e w' ⟨rfl, rfl⟩) | (go_at_call 19; refine (free_nil _).mono ?_; rintro e w' ⟨rfl, rfl⟩) | (go_at_call 21; refine (used_nil).mono ?_; rintro e w' ⟨rfl, rfl⟩) | (go_at_call 23; refine (pages_nil).mono ?_; rintro e w' ⟨rfl, rfl⟩) | (go_at_call 11; refine (arena_nil).mono ?_; rintro e w' ⟨rfl, rfl⟩))
      go_ret
      exact ⟨rfl, B2.out⟩
    · have hd : decide (size < 1) = false := decide_eq_false (by omega)
      have hd2 : decide (256 < size) = true := decide_eq_true hs
      go_enter Tryd.func6, Tryd.ntmps6
      go_wp2_with fail
      refine (shownS_any HT.out).mono ?_
      rintro e w1 ⟨rfl, hb⟩
      have H1 := Lib.hid (HT.out.below hb)
      have B1 := Lib.hid hb
      clear hb
      go_wp2_with fail
      refine (alloc_nil size H1.out.cl).mono ?_
      rw [E1.out]
      rintro e w2 ⟨rfl, hb⟩
      have B2 := Lib.hid (B1.out.trans (hb.mono B1.out.size))
      clear hb
      go_wp2_with (first | (go_at_call 25; refine (block_nil _).mono ?_; rintro e w' ⟨rfl, rfl⟩) | (go_at_call 19; refine (free_nil _).mono ?_; rintro e w' ⟨rfl, rfl⟩) | (go_at_call 21; refine (used_nil).mono ?_; rintro e w' ⟨rfl, rfl⟩) | (go_at_call 23; refine (pages_nil).mono ?_; rintro e w' ⟨rfl, rfl⟩) | (go_at_call 11; refine (arena_nil).mono ?_; rintro e w' ⟨rfl, rfl⟩))
      go_ret
      exact ⟨rfl, B2.out⟩
  · have e1 : nbE size = 5 := by unfold nbE; rw [show alOk size = true by simp [alOk, hs]]; rfl
    have E1 := Lib.hid e1
    have hd : decide (size < 1) = false := decide_eq_false (by omega)
    have hd2 : decide (256 < size) = false := decide_eq_false (by omega)
    clear e1
    go_enter Tryd.func6, Tryd.ntmps6
    go_wp2_with fail
    refine (shownS_any HT.out).mono ?_
    rintro e w1 ⟨rfl, hb⟩
    have H1 := Lib.hid (HT.out.below hb)
    have B1 := Lib.hid hb
    clear hb
    go_wp2_with fail
    refine (alloc_nil size H1.out.cl).mono ?_
    rw [E1.out]
    rintro e w2 ⟨rfl, hb⟩
    have B2 := Lib.hid (B1.out.trans (hb.mono B1.out.size))
    clear hb
    go_wp2_with (first | (go_at_call 25; refine (block_nil _).mono ?_; rintro e w' ⟨rfl, rfl⟩) | (go_at_call 19; refine (free_nil _).mono ?_; rintro e w' ⟨rfl, rfl⟩) | (go_at_call 21; refine (used_nil).mono ?_; rintro e w' ⟨rfl, rfl⟩) | (go_at_call 23; refine (pages_nil).mono ?_; rintro e w' ⟨rfl, rfl⟩) | (go_at_call 11; refine (arena_nil).mono ?_; rintro e w' ⟨rfl, rfl⟩))
    go_ret
    exact ⟨rfl, B2.out⟩
end Go.Proofs.YthblpnnbkjhmhaaDoor
