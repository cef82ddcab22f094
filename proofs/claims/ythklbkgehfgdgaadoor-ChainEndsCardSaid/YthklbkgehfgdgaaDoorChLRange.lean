/- The walk of ChainRange: it returns true, and nothing that was there has turned. Condition: the table of widths lies in its block. -/
import Derived.Test.YthklbkgehfgdgaaDoorChShown
namespace Go.Proofs.YthklbkgehfgdgaaDoor
open Go.RowKit

theorem by512 {w0 : World} (p g : Nat) (L : Nat → List Nat) (f : Nat → Int) (w' : World) (c : Cs w0 w' p g L f) :
    Calls Tryd.prog 24 #[.pointer (some ⟨p, 0, none⟩), .int .i64 0, .int .i64 512] w' fun e w'' =>
      e = .returned (.tuple #[.slice (some ⟨w'.heap.size, 0, none⟩) 512 512, .int .i64 0]) ∧ Blk w'' w'.heap.size 5 (row 512 f) ∧ Below w'.heap.size w' w'' :=
  bytes_all p g 512 f c.aw.ar
set_option maxRecDepth 100000 in
set_option maxHeartbeats 4000000 in
theorem range_walk (at_ : Int) (d : Bool) (w : World) (hT : Tab w) (hB : 0 < w.heap.size) :
    Calls Tryd.prog 4 #[.int .i64 at_, .bool d] w fun e w' => e = .returned (.bool true) ∧ Below w.heap.size w w' := by
  by_cases h1 : at_ < 1
  · have F8 : Hid (hd 512 at_ 8 = false) := Lib.hid (by unfold hd; rw [decide_eq_false (by omega)]; rfl)
    have F16 : Hid (hd 512 at_ 16 = false) := Lib.hid (by unfold hd; rw [decide_eq_false (by omega)]; rfl)
    have SH := Lib.hid (shown_any10 hT hB)
    have HT := Lib.hid hT
    clear hT
    go_enter Tryd.func4, Tryd.ntmps4
    go_wp2_with fail
    refine SH.out.mono ?_
    rintro e wa ⟨rfl, hb⟩
    have NW := Lib.hid (cs_new (HT.out.below hb hB) (Nat.lt_of_lt_of_le hB hb.size) hb)
    clear hb
    go_wp2_with fail
    refine NW.out.mono ?_
    rintro e wc ⟨p, g, rfl, hc, hb⟩
    have CC := Lib.hid hc
    clear hc hb
    have BY := Lib.hid (by512 (w0 := w) p g E0 (fun _ => 0))
    go_wp2_with (first
      | (go_at_call 21; (with_reducible refine (end_far CC.out.aw at_ d F8.out).mono ?_); rintro e wc ⟨rfl, hbc⟩; have CC := Lib.hid (CC.out.below hbc); clear hbc)
      | (go_at_call 22; (with_reducible refine (owner_far CC.out.aw at_ F16.out).mono ?_); rintro e wc ⟨rfl, hbc⟩; have CC := Lib.hid (CC.out.below hbc); clear hbc)
      | (go_at_call 23; (with_reducible refine (next_far CC.out.aw at_ d F16.out).mono ?_); rintro e wc ⟨rfl, hbc⟩; have CC := Lib.hid (CC.out.below hbc); clear hbc)
      | (go_at_call 14; (with_reducible refine (push_far CC.out.aw 8 at_ d (Or.inr F16.out)).mono ?_); rintro e wc ⟨rfl, hbc⟩; have CC := Lib.hid (CC.out.below hbc); clear hbc)
      | (go_at_call 18; (with_reducible refine (remove_far CC.out.aw 8 at_ (Or.inr F16.out)).mono ?_); rintro e wc ⟨rfl, hbc⟩; have CC := Lib.hid (CC.out.below hbc); clear hbc)
      | (go_at_call 24; (with_reducible refine (BY.out _ CC.out).mono ?_); rintro e wb ⟨rfl, hbk, hbb⟩; have CC := Lib.hid (CC.out.below hbb); generalize wc.heap.size = bb at hbk ⊢; replace hbk := Lib.hid hbk; clear hbb))
    have hz : Hid (∀ j : Nat, j < 512 → wb.cell? ⟨bb, j, none⟩ = some (.int .u8 0)) := Lib.hid fun j hj => by
      have h5 := hbk.out.cell j
      rw [row_at _ _ _ hj] at h5
      exact h5
    go_wp2_with fail
    go_loop [19] (fun v => ∃ j : Nat, j ≤ 512 ∧ v = .int .i64 j) (fun v => 512 - (intOf v).toNat)
    case atStart => exact ⟨0, Nat.zero_le _, rfl⟩
    case round =>
      obtain ⟨j, hj, rfl⟩ := hrel
      by_cases hjc : j < 512
      · have hcj := hz.out j hjc
        go_wp2
        go_round
        case rel => exact ⟨j + 1, hjc, by go_num⟩
        case measure => simp [intOf]; omega
      · obtain rfl : j = 512 := by omega
        go_wp2_with (first
          | (go_at_call 16; (with_reducible refine (pop_far CC.out.aw at_ d F8.out).mono ?_); rintro e wc ⟨rfl, hbc⟩; have CC := Lib.hid (CC.out.below hbc); clear hbc)
          | (go_at_call 25; (with_reducible refine (all_far CC.out.aw at_ F8.out).mono ?_); rintro e wc ⟨rfl, hbc⟩; have CC := Lib.hid (CC.out.below hbc); clear hbc)
          | (go_at_call 14; (with_reducible refine (push_far CC.out.aw at_ 32 d (Or.inl F8.out)).mono ?_); rintro e wc ⟨rfl, hbc⟩; have CC := Lib.hid (CC.out.below hbc); clear hbc))
        go_ret
        exact ⟨rfl, CC.out.bl⟩
  · by_cases h3 : 504 < at_
    · have h2 : 496 < at_ := by omega
      have F8 : Hid (hd 512 at_ 8 = false) := Lib.hid (by unfold hd; rw [decide_eq_true (by omega), decide_eq_false (by omega)]; rfl)
      have F16 : Hid (hd 512 at_ 16 = false) := Lib.hid (by unfold hd; rw [decide_eq_true (by omega), decide_eq_false (by omega)]; rfl)
      have SH := Lib.hid (shown_any10 hT hB)
      have HT := Lib.hid hT
      clear hT
      go_enter Tryd.func4, Tryd.ntmps4
      go_wp2_with fail
      refine SH.out.mono ?_
      rintro e wa ⟨rfl, hb⟩
      have NW := Lib.hid (cs_new (HT.out.below hb hB) (Nat.lt_of_lt_of_le hB hb.size) hb)
      clear hb
      go_wp2_with fail
      refine NW.out.mono ?_
      rintro e wc ⟨p, g, rfl, hc, hb⟩
      have CC := Lib.hid hc
      clear hc hb
      have BY := Lib.hid (by512 (w0 := w) p g E0 (fun _ => 0))
      go_wp2_with (first
        | (go_at_call 21; (with_reducible refine (end_far CC.out.aw at_ d F8.out).mono ?_); rintro e wc ⟨rfl, hbc⟩; have CC := Lib.hid (CC.out.below hbc); clear hbc)
        | (go_at_call 22; (with_reducible refine (owner_far CC.out.aw at_ F16.out).mono ?_); rintro e wc ⟨rfl, hbc⟩; have CC := Lib.hid (CC.out.below hbc); clear hbc)
        | (go_at_call 23; (with_reducible refine (next_far CC.out.aw at_ d F16.out).mono ?_); rintro e wc ⟨rfl, hbc⟩; have CC := Lib.hid (CC.out.below hbc); clear hbc)
        | (go_at_call 14; (with_reducible refine (push_far CC.out.aw 8 at_ d (Or.inr F16.out)).mono ?_); rintro e wc ⟨rfl, hbc⟩; have CC := Lib.hid (CC.out.below hbc); clear hbc)
        | (go_at_call 18; (with_reducible refine (remove_far CC.out.aw 8 at_ (Or.inr F16.out)).mono ?_); rintro e wc ⟨rfl, hbc⟩; have CC := Lib.hid (CC.out.below hbc); clear hbc)
        | (go_at_call 24; (with_reducible refine (BY.out _ CC.out).mono ?_); rintro e wb ⟨rfl, hbk, hbb⟩; have CC := Lib.hid (CC.out.below hbb); generalize wc.heap.size = bb at hbk ⊢; replace hbk := Lib.hid hbk; clear hbb))
      have hz : Hid (∀ j : Nat, j < 512 → wb.cell? ⟨bb, j, none⟩ = some (.int .u8 0)) := Lib.hid fun j hj => by
        have h5 := hbk.out.cell j
        rw [row_at _ _ _ hj] at h5
        exact h5
      go_wp2_with fail
      go_loop [19] (fun v => ∃ j : Nat, j ≤ 512 ∧ v = .int .i64 j) (fun v => 512 - (intOf v).toNat)
      case atStart => exact ⟨0, Nat.zero_le _, rfl⟩
      case round =>
        obtain ⟨j, hj, rfl⟩ := hrel
        by_cases hjc : j < 512
        · have hcj := hz.out j hjc
          go_wp2
          go_round
          case rel => exact ⟨j + 1, hjc, by go_num⟩
          case measure => simp [intOf]; omega
        · obtain rfl : j = 512 := by omega
          go_wp2_with (first
            | (go_at_call 16; (with_reducible refine (pop_far CC.out.aw at_ d F8.out).mono ?_); rintro e wc ⟨rfl, hbc⟩; have CC := Lib.hid (CC.out.below hbc); clear hbc)
            | (go_at_call 25; (with_reducible refine (all_far CC.out.aw at_ F8.out).mono ?_); rintro e wc ⟨rfl, hbc⟩; have CC := Lib.hid (CC.out.below hbc); clear hbc)
            | (go_at_call 14; (with_reducible refine (push_far CC.out.aw at_ 32 d (Or.inl F8.out)).mono ?_); rintro e wc ⟨rfl, hbc⟩; have CC := Lib.hid (CC.out.below hbc); clear hbc))
          go_ret
          exact ⟨rfl, CC.out.bl⟩
    · obtain ⟨k, rfl⟩ : ∃ k : Nat, at_ = k := ⟨at_.toNat, by omega⟩
      have Z : ∀ j, lk (fun _ => 0) j = ((0 : Nat) : Int) := fun j => lk_of_zero fun _ _ _ => rfl
      by_cases h2 : 496 < (k : Int)
      · have F16 : Hid (hd 512 (k : Int) 16 = false) := Lib.hid (by unfold hd; rw [decide_eq_true (by omega), decide_eq_false (by omega)]; rfl)
        have SH := Lib.hid (shown_any10 hT hB)
        have HT := Lib.hid hT
        clear hT
        go_enter Tryd.func4, Tryd.ntmps4
        go_wp2_with fail
        refine SH.out.mono ?_
        rintro e wa ⟨rfl, hb⟩
        have NW := Lib.hid (cs_new (HT.out.below hb hB) (Nat.lt_of_lt_of_le hB hb.size) hb)
        clear hb
        go_wp2_with fail
        refine NW.out.mono ?_
        rintro e wc ⟨p, g, rfl, hc, hb⟩
        have CC := Lib.hid hc
        clear hc hb
        have BY := Lib.hid (by512 (w0 := w) p g E0 (fun _ => 0))
        go_wp2_with (first
          | (go_at_call 21; (with_reducible refine (end_at CC.out.aw k 0 d (by omega) (by omega) (Z _)).mono ?_); rintro e wc ⟨rfl, hbc⟩; have CC := Lib.hid (CC.out.below hbc); clear hbc)
          | (go_at_call 22; (with_reducible refine (owner_far CC.out.aw (k : Int) F16.out).mono ?_); rintro e wc ⟨rfl, hbc⟩; have CC := Lib.hid (CC.out.below hbc); clear hbc)
          | (go_at_call 23; (with_reducible refine (next_far CC.out.aw (k : Int) d F16.out).mono ?_); rintro e wc ⟨rfl, hbc⟩; have CC := Lib.hid (CC.out.below hbc); clear hbc)
          | (go_at_call 14; (with_reducible refine (push_far CC.out.aw 8 (k : Int) d (Or.inr F16.out)).mono ?_); rintro e wc ⟨rfl, hbc⟩; have CC := Lib.hid (CC.out.below hbc); clear hbc)
          | (go_at_call 18; (with_reducible refine (remove_far CC.out.aw 8 (k : Int) (Or.inr F16.out)).mono ?_); rintro e wc ⟨rfl, hbc⟩; have CC := Lib.hid (CC.out.below hbc); clear hbc)
          | (go_at_call 24; (with_reducible refine (BY.out _ CC.out).mono ?_); rintro e wb ⟨rfl, hbk, hbb⟩; have CC := Lib.hid (CC.out.below hbb); generalize wc.heap.size = bb at hbk ⊢; replace hbk := Lib.hid hbk; clear hbb))
        have hz : Hid (∀ j : Nat, j < 512 → wb.cell? ⟨bb, j, none⟩ = some (.int .u8 0)) := Lib.hid fun j hj => by
          have h5 := hbk.out.cell j
          rw [row_at _ _ _ hj] at h5
          exact h5
        go_wp2_with fail
        go_loop [19] (fun v => ∃ j : Nat, j ≤ 512 ∧ v = .int .i64 j) (fun v => 512 - (intOf v).toNat)
        case atStart => exact ⟨0, Nat.zero_le _, rfl⟩
        case round =>
          obtain ⟨j, hj, rfl⟩ := hrel
          by_cases hjc : j < 512
          · have hcj := hz.out j hjc
            go_wp2
            go_round
            case rel => exact ⟨j + 1, hjc, by go_num⟩
            case measure => simp [intOf]; omega
          · obtain rfl : j = 512 := by omega
            go_wp2
            go_ret
            exact ⟨rfl, CC.out.bl⟩
      · skip
        have SH := Lib.hid (shown_any10 hT hB)
        have HT := Lib.hid hT
        clear hT
        go_enter Tryd.func4, Tryd.ntmps4
        go_wp2_with fail
        refine SH.out.mono ?_
        rintro e wa ⟨rfl, hb⟩
        have NW := Lib.hid (cs_new (HT.out.below hb hB) (Nat.lt_of_lt_of_le hB hb.size) hb)
        clear hb
        go_wp2_with fail
        refine NW.out.mono ?_
        rintro e wc ⟨p, g, rfl, hc, hb⟩
        have CC := Lib.hid hc
        clear hc hb
        go_wp2_with (first
          | (go_at_call 21; (with_reducible refine (end_at CC.out.aw k 0 d (by omega) (by omega) (Z _)).mono ?_); rintro e wc ⟨rfl, hbc⟩; have CC := Lib.hid (CC.out.below hbc); clear hbc)
          | (go_at_call 22; (with_reducible refine (owner_at CC.out.aw k 0 (by omega) (by omega) (Z _)).mono ?_); rintro e wc ⟨rfl, hbc⟩; have CC := Lib.hid (CC.out.below hbc); clear hbc)
          | (go_at_call 23; (with_reducible refine (next_at CC.out.aw k 0 d (by omega) (by omega) (Z _)).mono ?_); rintro e wc ⟨rfl, hbc⟩; have CC := Lib.hid (CC.out.below hbc); clear hbc))
        all_goals first
          | (go_ret; exact ⟨rfl, CC.out.bl⟩)
          | exact absurd ‹(!decide ((k : Int) < 1)) = false ∨ (!decide (496 < (k : Int))) = false› (by simp; omega)
end Go.Proofs.YthklbkgehfgdgaaDoor
