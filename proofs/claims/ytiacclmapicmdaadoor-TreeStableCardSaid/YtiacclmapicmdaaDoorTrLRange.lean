/- The walk of TreeRange: it returns true, and nothing that was there has turned. Condition: the table of widths lies in its block. -/
import Derived.Test.YtiacclmapicmdaaDoorTrOpen
import Derived.Deep.LoopGhost
import Derived.Deep.CutRange
namespace Go.Proofs.YtiacclmapicmdaaDoor
open Go.RowKit

/-- An arena of no tree, whose other bytes are 0, is all 0. -/
theorem Lw.zero {w0 w : World} {p g : Nat} {f0 : Nat → Int} (L : Lw w0 w p g f0 .e) (hz : ∀ k, f0 k = 0) : Aw w p g 2048 (fun _ => 0) := by
  obtain ⟨s, I, L⟩ := L
  obtain ⟨f, t⟩ := L.tx.td
  have htop : s.top = 0 := L.tx.al.at_
  have hI : ∀ j, I j = false := fun j => by
    cases h : I j with
    | false => rfl
    | true => exact absurd ((L.tx.inn j).1 h) (by simp [T.ns])
  have e : f = fun _ => 0 := by
    funext k
    refine keepT_zero t.kp hz t.aw.ar.byte ?_ (fun j hj i hi => ?_) k
    · rw [t.tm.top, htop]
      rfl
    · rw [t.tm.wds j hj i hi]
      have hj1 : 1 ≤ j := hj.1
      obtain ⟨h1, h2, h3⟩ := L.tx.al.no j (by simp [T.ns]) (by omega)
      match i, hi with
      | 0, _ => simp [wd, h1, mkC]
      | 1, _ => simp [wd, h1, mkC]
      | 2, _ => simp [wd, h2, mkC]
      | 3, _ => simp [wd, hI]
      | 4, _ => simp [wd, h3]
  rw [e] at t
  exact t.aw
theorem lk0 (k : Nat) : lk (fun _ => 0) k = 0 := lk_of_zero fun _ _ _ => rfl
theorem tgv0 (k o : Nat) : tgv (fun _ => 0) k o = 0 := by
  unfold tgv
  split
  · rfl
  · exact lk0 _
/-- An empty tree at any root of an arena of zeros. -/
theorem td_at {w : World} {p g : Nat} (a : Aw w p g 2048 (fun _ => 0)) {k : Nat} (h1 : 1 ≤ k) (h2 : k + 8 ≤ 2048) : Td ⟨p, g, 2048, fun j => 32 * j, k, fun _ => False, fun _ => 0⟩ w s0 (fun _ => false) :=
  ⟨fun _ => 0, a, ⟨⟨(by show (2048 : Nat) ≤ 65536; decide), rfl, fun j h => h.elim, fun i j h => h.elim, ⟨h1, h2⟩, fun j h => h.elim⟩, fun j h => h.elim, lk0 k, .inl rfl, fun j h => h.elim⟩, KeepT.refl _, zn0⟩
theorem first_at {w : World} {p g : Nat} (a : Aw w p g 2048 (fun _ => 0)) (k : Nat) (h1 : 1 ≤ k) (h2 : k + 8 ≤ 2048) :
    Calls Tryd.prog 19 #[.pointer (some ⟨p, 0, none⟩), .int .i64 (k : Nat)] w fun e w' => e = .returned (.tuple #[.int .i64 0, .int .i64 0]) ∧ Below w.heap.size w w' := by
  have := (td_at a h1 h2).firstP (T0 := .e) rfl (show 0 < 2048 by decide)
  exact this
theorem all_at {w : World} {p g : Nat} (a : Aw w p g 2048 (fun _ => 0)) (k : Nat) (h1 : 1 ≤ k) (h2 : k + 8 ≤ 2048) :
    Calls Tryd.prog 21 #[.pointer (some ⟨p, 0, none⟩), .int .i64 (k : Nat)] w fun e w' => (∃ A cap, e = .returned (.tuple #[.slice A 0 cap, .int .i64 0])) ∧ Below w.heap.size w w' := by
  have := (td_at a h1 h2).allP (T0 := .e) rfl (fun j hj => by cases hj) (by decide) (by decide)
  exact this.mono fun e w' ⟨A, cap, h1, _, h3⟩ => ⟨⟨A, cap, h1⟩, h3⟩
theorem by2048 {w : World} {p g : Nat} {f : Nat → Int} (a : Aw w p g 2048 f) :
    Calls Tryd.prog 28 #[.pointer (some ⟨p, 0, none⟩), .int .i64 0, .int .i64 2048] w fun e w' =>
      e = .returned (.tuple #[.slice (some ⟨w.heap.size, 0, none⟩) 2048 2048, .int .i64 0]) ∧ Blk w' w.heap.size 5 (row 2048 f) ∧ Below w.heap.size w w' :=
  bytes_all p g 2048 f a.ar
set_option maxRecDepth 100000 in
set_option maxHeartbeats 8000000 in
theorem range_walk11 (at_ delta : Int) (d : Bool) (w : World) (hT : Tab w) (hB : 0 < w.heap.size) :
    Calls Tryd.prog 6 #[.int .i64 at_, .int .i64 delta, .bool d] w fun e w' => e = .returned (.bool true) ∧ Below w.heap.size w w' := by
  have hdl : (¬ (-1000000 : Int) < delta) ∨ ((-1000000 : Int) < delta ∧ ¬ delta < 1000000) ∨ ((-1000000 : Int) < delta ∧ delta < 1000000 ∧ 64 + delta < 0) ∨ ((-1000000 : Int) < delta ∧ delta < 1000000 ∧ ¬ 64 + delta < 0 ∧ 2040 < 64 + delta) ∨ ((-1000000 : Int) < delta ∧ delta < 1000000 ∧ ¬ 64 + delta < 0 ∧ ¬ 2040 < 64 + delta) := by omega
  have HDL := Lib.hid hdl
  clear hdl
  by_cases h1 : at_ < 1
  · have F8 : Hid (hd 2048 at_ 8 = false) := Lib.hid (by unfold hd; rw [decide_eq_false (by omega)]; rfl)
    have F24 : Hid (hd 2048 at_ 24 = false) := Lib.hid (by unfold hd; rw [decide_eq_false (by omega)]; rfl)
    have SH := Lib.hid (shown_any11 hT hB)
    have HT := Lib.hid hT
    have HWB := Lib.hid hB
    have FRS : Hid (∀ w1, Below w.heap.size w w1 → Calls Tryd.prog 11 #[.slice none 0 0] w1 fun e w' => ∃ p g, e = .returned (.pointer (some ⟨p, 0, none⟩)) ∧ Lx w w' p g (kf [] 0) s0 (fun _ => false) .e ∧ Below w1.heap.size w1 w') := Lib.hid fun w1 h1 =>
      fresh_any (HT.out.below h1 HWB.out) (Nat.lt_of_lt_of_le HWB.out h1.size) h1 (fun i x hx => by simp at hx) rfl (Nat.le_refl 0) (by decide)
    clear hT hB
    go_enter Tryd.func6, Tryd.ntmps6
    go_upto_region 18 with (first
      | (go_at_call 9; (with_reducible refine SH.out.mono ?_); rintro e wa ⟨rfl, hba⟩; have BA := Lib.hid hba; clear hba)
      | (go_at_call 11; (with_reducible refine (FRS.out _ BA.out).mono ?_); rintro e wb ⟨p, g, rfl, hL, hbb⟩; have AW : Hid (Aw wb p g 2048 (fun _ => 0)) := Lib.hid (Lw.zero ⟨_, _, hL⟩ (fun _ => rfl)); have BL := Lib.hid hL.bl; clear hL hbb)
      | (go_at_call 23; (with_reducible refine (troot_far AW.out at_ F8.out).mono ?_); rintro e wc ⟨rfl, hbc⟩; have AW := Lib.hid (AW.out.below hbc); have BL := Lib.hid (BL.out.trans (hbc.mono BL.out.size)); clear hbc)
      | (go_at_call 19; (with_reducible refine (tfirst_far AW.out at_ F8.out).mono ?_); rintro e wc ⟨rfl, hbc⟩; have AW := Lib.hid (AW.out.below hbc); have BL := Lib.hid (BL.out.trans (hbc.mono BL.out.size)); clear hbc)
      | (go_at_call 21; (with_reducible refine (tall_far AW.out at_ F8.out).mono ?_); rintro e wc ⟨rfl, hbc⟩; have AW := Lib.hid (AW.out.below hbc); have BL := Lib.hid (BL.out.trans (hbc.mono BL.out.size)); clear hbc)
      | (go_at_call 29; (with_reducible refine (tchild_far AW.out at_ d F24.out).mono ?_); rintro e wc ⟨rfl, hbc⟩; have AW := Lib.hid (AW.out.below hbc); have BL := Lib.hid (BL.out.trans (hbc.mono BL.out.size)); clear hbc)
      | (go_at_call 30; (with_reducible refine (towner_far AW.out at_ F24.out).mono ?_); rintro e wc ⟨rfl, hbc⟩; have AW := Lib.hid (AW.out.below hbc); have BL := Lib.hid (BL.out.trans (hbc.mono BL.out.size)); clear hbc)
      | (go_at_call 25; (with_reducible refine (tred_far AW.out at_ F24.out).mono ?_); rintro e wc ⟨rfl, hbc⟩; have AW := Lib.hid (AW.out.below hbc); have BL := Lib.hid (BL.out.trans (hbc.mono BL.out.size)); clear hbc)
      | (go_at_call 16; (with_reducible refine (tadd_far AW.out 8 at_ 0 (Or.inr F24.out)).mono ?_); rintro e wc ⟨rfl, hbc⟩; have AW := Lib.hid (AW.out.below hbc); have BL := Lib.hid (BL.out.trans (hbc.mono BL.out.size)); clear hbc)
      | (go_at_call 13; (with_reducible refine (tremove_far AW.out 8 at_ (Or.inr F24.out)).mono ?_); rintro e wc ⟨rfl, hbc⟩; have AW := Lib.hid (AW.out.below hbc); have BL := Lib.hid (BL.out.trans (hbc.mono BL.out.size)); clear hbc))
    have H8 : Hid (hd 2048 (8 : Int) 8 = true) := Lib.hid rfl
    have H64 : Hid (hd 2048 (64 : Int) 24 = true) := Lib.hid rfl
    rcases HDL.out with hdl | hdl | hdl | hdl | hdl
    · have dA : ¬ (-1000000 : Int) < delta := by omega
      have eA : decide ((-1000000 : Int) < delta) = false := decide_eq_false dA
      clear hdl
      go_wp2_with (first
        | (go_at_call 16; (with_reducible refine (tadd_far AW.out at_ 64 (-8) (Or.inl F8.out)).mono ?_); rintro e wc ⟨rfl, hbc⟩; have AW := Lib.hid (AW.out.below hbc); have BL := Lib.hid (BL.out.trans (hbc.mono BL.out.size)); clear hbc)
        | (go_at_call 13; (with_reducible refine (tremove_far AW.out at_ 64 (Or.inl F8.out)).mono ?_); rintro e wc ⟨rfl, hbc⟩; have AW := Lib.hid (AW.out.below hbc); have BL := Lib.hid (BL.out.trans (hbc.mono BL.out.size)); clear hbc)
        | (go_at_call 28; (with_reducible refine (by2048 AW.out).mono ?_); rintro e wb2 ⟨rfl, hbk, hbb⟩; have BL := Lib.hid (BL.out.trans (hbb.mono BL.out.size)); generalize wc.heap.size = bb at hbk ⊢; replace hbk := Lib.hid hbk; clear hbb))
      have hz : Hid (∀ j : Nat, j < 2048 → wb2.cell? ⟨bb, j, none⟩ = some (.int .u8 0)) := Lib.hid fun j hj => by
        have h5 := hbk.out.cell j
        rw [row_at _ _ _ hj] at h5
        exact h5
      go_wp2_with fail
      go_loop [27] (fun v => ∃ j : Nat, j ≤ 2048 ∧ v = .int .i64 j) (fun v => 2048 - (intOf v).toNat)
      case atStart => exact ⟨0, Nat.zero_le _, rfl⟩
      case round =>
        obtain ⟨j, hj, rfl⟩ := hrel
        by_cases hjc : j < 2048
        · have hcj := hz.out j hjc
          go_wp2
          go_round
          case rel => exact ⟨j + 1, hjc, by go_num⟩
          case measure => simp [intOf]; omega
        · obtain rfl : j = 2048 := by omega
          go_wp2
          go_ret
          exact ⟨rfl, BL.out⟩
    · obtain ⟨dA, dB0⟩ := hdl
      have dB : ¬ delta < 1000000 := by omega
      have eA : decide ((-1000000 : Int) < delta) = true := decide_eq_true dA
      have eB : decide (delta < (1000000 : Int)) = false := decide_eq_false dB
      clear dB0
      go_wp2_with (first
        | (go_at_call 16; (with_reducible refine (tadd_far AW.out at_ 64 (-8) (Or.inl F8.out)).mono ?_); rintro e wc ⟨rfl, hbc⟩; have AW := Lib.hid (AW.out.below hbc); have BL := Lib.hid (BL.out.trans (hbc.mono BL.out.size)); clear hbc)
        | (go_at_call 13; (with_reducible refine (tremove_far AW.out at_ 64 (Or.inl F8.out)).mono ?_); rintro e wc ⟨rfl, hbc⟩; have AW := Lib.hid (AW.out.below hbc); have BL := Lib.hid (BL.out.trans (hbc.mono BL.out.size)); clear hbc)
        | (go_at_call 28; (with_reducible refine (by2048 AW.out).mono ?_); rintro e wb2 ⟨rfl, hbk, hbb⟩; have BL := Lib.hid (BL.out.trans (hbb.mono BL.out.size)); generalize wc.heap.size = bb at hbk ⊢; replace hbk := Lib.hid hbk; clear hbb))
      have hz : Hid (∀ j : Nat, j < 2048 → wb2.cell? ⟨bb, j, none⟩ = some (.int .u8 0)) := Lib.hid fun j hj => by
        have h5 := hbk.out.cell j
        rw [row_at _ _ _ hj] at h5
        exact h5
      go_wp2_with fail
      go_loop [27] (fun v => ∃ j : Nat, j ≤ 2048 ∧ v = .int .i64 j) (fun v => 2048 - (intOf v).toNat)
      case atStart => exact ⟨0, Nat.zero_le _, rfl⟩
      case round =>
        obtain ⟨j, hj, rfl⟩ := hrel
        by_cases hjc : j < 2048
        · have hcj := hz.out j hjc
          go_wp2
          go_round
          case rel => exact ⟨j + 1, hjc, by go_num⟩
          case measure => simp [intOf]; omega
        · obtain rfl : j = 2048 := by omega
          go_wp2
          go_ret
          exact ⟨rfl, BL.out⟩
    · obtain ⟨dA, dB, dC⟩ := hdl
      have hw : IntKind.i64.wrap (64 + delta) = 64 + delta := IntWalk.i64_in _ (by omega)
      have KF : Hid (64 + delta < 0 ∨ (2048 : Nat) - (8 : Int) < 64 + delta) := Lib.hid (.inl dC)
      have HWW := Lib.hid hw
      go_wp2_with (first
        | (go_at_call 16; (with_reducible refine (tadd_key AW.out 8 64 delta H8.out H64.out HWW.out KF.out).mono ?_); rintro e wc ⟨rfl, hbc⟩; have AW := Lib.hid (AW.out.below hbc); have BL := Lib.hid (BL.out.trans (hbc.mono BL.out.size)); clear hbc)
        | (go_at_call 16; (with_reducible refine (tadd_far AW.out at_ 64 (-8) (Or.inl F8.out)).mono ?_); rintro e wc ⟨rfl, hbc⟩; have AW := Lib.hid (AW.out.below hbc); have BL := Lib.hid (BL.out.trans (hbc.mono BL.out.size)); clear hbc)
        | (go_at_call 13; (with_reducible refine (tremove_far AW.out at_ 64 (Or.inl F8.out)).mono ?_); rintro e wc ⟨rfl, hbc⟩; have AW := Lib.hid (AW.out.below hbc); have BL := Lib.hid (BL.out.trans (hbc.mono BL.out.size)); clear hbc)
        | (go_at_call 28; (with_reducible refine (by2048 AW.out).mono ?_); rintro e wb2 ⟨rfl, hbk, hbb⟩; have BL := Lib.hid (BL.out.trans (hbb.mono BL.out.size)); generalize wc.heap.size = bb at hbk ⊢; replace hbk := Lib.hid hbk; clear hbb))
      have hz : Hid (∀ j : Nat, j < 2048 → wb2.cell? ⟨bb, j, none⟩ = some (.int .u8 0)) := Lib.hid fun j hj => by
        have h5 := hbk.out.cell j
        rw [row_at _ _ _ hj] at h5
        exact h5
      go_wp2_with fail
      go_loop [27] (fun v => ∃ j : Nat, j ≤ 2048 ∧ v = .int .i64 j) (fun v => 2048 - (intOf v).toNat)
      case atStart => exact ⟨0, Nat.zero_le _, rfl⟩
      case round =>
        obtain ⟨j, hj, rfl⟩ := hrel
        by_cases hjc : j < 2048
        · have hcj := hz.out j hjc
          go_wp2
          go_round
          case rel => exact ⟨j + 1, hjc, by go_num⟩
          case measure => simp [intOf]; omega
        · obtain rfl : j = 2048 := by omega
          go_wp2
          go_ret
          exact ⟨rfl, BL.out⟩
    · obtain ⟨dA, dB, dC, dD⟩ := hdl
      have hw : IntKind.i64.wrap (64 + delta) = 64 + delta := IntWalk.i64_in _ (by omega)
      have KF : Hid (64 + delta < 0 ∨ (2048 : Nat) - (8 : Int) < 64 + delta) := Lib.hid (.inr (by omega))
      have HWW := Lib.hid hw
      go_wp2_with (first
        | (go_at_call 16; (with_reducible refine (tadd_key AW.out 8 64 delta H8.out H64.out HWW.out KF.out).mono ?_); rintro e wc ⟨rfl, hbc⟩; have AW := Lib.hid (AW.out.below hbc); have BL := Lib.hid (BL.out.trans (hbc.mono BL.out.size)); clear hbc)
        | (go_at_call 16; (with_reducible refine (tadd_far AW.out at_ 64 (-8) (Or.inl F8.out)).mono ?_); rintro e wc ⟨rfl, hbc⟩; have AW := Lib.hid (AW.out.below hbc); have BL := Lib.hid (BL.out.trans (hbc.mono BL.out.size)); clear hbc)
        | (go_at_call 13; (with_reducible refine (tremove_far AW.out at_ 64 (Or.inl F8.out)).mono ?_); rintro e wc ⟨rfl, hbc⟩; have AW := Lib.hid (AW.out.below hbc); have BL := Lib.hid (BL.out.trans (hbc.mono BL.out.size)); clear hbc)
        | (go_at_call 28; (with_reducible refine (by2048 AW.out).mono ?_); rintro e wb2 ⟨rfl, hbk, hbb⟩; have BL := Lib.hid (BL.out.trans (hbb.mono BL.out.size)); generalize wc.heap.size = bb at hbk ⊢; replace hbk := Lib.hid hbk; clear hbb))
      have hz : Hid (∀ j : Nat, j < 2048 → wb2.cell? ⟨bb, j, none⟩ = some (.int .u8 0)) := Lib.hid fun j hj => by
        have h5 := hbk.out.cell j
        rw [row_at _ _ _ hj] at h5
        exact h5
      go_wp2_with fail
      go_loop [27] (fun v => ∃ j : Nat, j ≤ 2048 ∧ v = .int .i64 j) (fun v => 2048 - (intOf v).toNat)
      case atStart => exact ⟨0, Nat.zero_le _, rfl⟩
      case round =>
        obtain ⟨j, hj, rfl⟩ := hrel
        by_cases hjc : j < 2048
        · have hcj := hz.out j hjc
          go_wp2
          go_round
          case rel => exact ⟨j + 1, hjc, by go_num⟩
          case measure => simp [intOf]; omega
        · obtain rfl : j = 2048 := by omega
          go_wp2
          go_ret
          exact ⟨rfl, BL.out⟩
    · obtain ⟨dA, dB, dC, dD⟩ := hdl
      have hw : IntKind.i64.wrap (64 + delta) = 64 + delta := IntWalk.i64_in _ (by omega)
      go_wp2_with (first
        | (go_at_call 16; (with_reducible refine (tadd_far AW.out at_ 64 (-8) (Or.inl F8.out)).mono ?_); rintro e wc ⟨rfl, hbc⟩; have AW := Lib.hid (AW.out.below hbc); have BL := Lib.hid (BL.out.trans (hbc.mono BL.out.size)); clear hbc)
        | (go_at_call 13; (with_reducible refine (tremove_far AW.out at_ 64 (Or.inl F8.out)).mono ?_); rintro e wc ⟨rfl, hbc⟩; have AW := Lib.hid (AW.out.below hbc); have BL := Lib.hid (BL.out.trans (hbc.mono BL.out.size)); clear hbc)
        | (go_at_call 28; (with_reducible refine (by2048 AW.out).mono ?_); rintro e wb2 ⟨rfl, hbk, hbb⟩; have BL := Lib.hid (BL.out.trans (hbb.mono BL.out.size)); generalize wc.heap.size = bb at hbk ⊢; replace hbk := Lib.hid hbk; clear hbb))
      have hz : Hid (∀ j : Nat, j < 2048 → wb2.cell? ⟨bb, j, none⟩ = some (.int .u8 0)) := Lib.hid fun j hj => by
        have h5 := hbk.out.cell j
        rw [row_at _ _ _ hj] at h5
        exact h5
      go_wp2_with fail
      go_loop [27] (fun v => ∃ j : Nat, j ≤ 2048 ∧ v = .int .i64 j) (fun v => 2048 - (intOf v).toNat)
      case atStart => exact ⟨0, Nat.zero_le _, rfl⟩
      case round =>
        obtain ⟨j, hj, rfl⟩ := hrel
        by_cases hjc : j < 2048
        · have hcj := hz.out j hjc
          go_wp2
          go_round
          case rel => exact ⟨j + 1, hjc, by go_num⟩
          case measure => simp [intOf]; omega
        · obtain rfl : j = 2048 := by omega
          go_wp2
          go_ret
          exact ⟨rfl, BL.out⟩
  · by_cases h3 : 2040 < at_
    · have h2 : 2024 < at_ := by omega
      have F8 : Hid (hd 2048 at_ 8 = false) := Lib.hid (by unfold hd; rw [decide_eq_true (by omega), decide_eq_false (by omega)]; rfl)
      have F24 : Hid (hd 2048 at_ 24 = false) := Lib.hid (by unfold hd; rw [decide_eq_true (by omega), decide_eq_false (by omega)]; rfl)
      have q1 : decide (at_ < 1) = false := decide_eq_false h1
      have q2 : decide (2040 < at_) = true := decide_eq_true h3
      have q3 : decide (2024 < at_) = true := decide_eq_true h2
      have SH := Lib.hid (shown_any11 hT hB)
      have HT := Lib.hid hT
      have HWB := Lib.hid hB
      have FRS : Hid (∀ w1, Below w.heap.size w w1 → Calls Tryd.prog 11 #[.slice none 0 0] w1 fun e w' => ∃ p g, e = .returned (.pointer (some ⟨p, 0, none⟩)) ∧ Lx w w' p g (kf [] 0) s0 (fun _ => false) .e ∧ Below w1.heap.size w1 w') := Lib.hid fun w1 h1 =>
        fresh_any (HT.out.below h1 HWB.out) (Nat.lt_of_lt_of_le HWB.out h1.size) h1 (fun i x hx => by simp at hx) rfl (Nat.le_refl 0) (by decide)
      clear hT hB
      go_enter Tryd.func6, Tryd.ntmps6
      go_upto_region 18 with (first
        | (go_at_call 9; (with_reducible refine SH.out.mono ?_); rintro e wa ⟨rfl, hba⟩; have BA := Lib.hid hba; clear hba)
        | (go_at_call 11; (with_reducible refine (FRS.out _ BA.out).mono ?_); rintro e wb ⟨p, g, rfl, hL, hbb⟩; have AW : Hid (Aw wb p g 2048 (fun _ => 0)) := Lib.hid (Lw.zero ⟨_, _, hL⟩ (fun _ => rfl)); have BL := Lib.hid hL.bl; clear hL hbb)
        | (go_at_call 23; (with_reducible refine (troot_far AW.out at_ F8.out).mono ?_); rintro e wc ⟨rfl, hbc⟩; have AW := Lib.hid (AW.out.below hbc); have BL := Lib.hid (BL.out.trans (hbc.mono BL.out.size)); clear hbc)
        | (go_at_call 19; (with_reducible refine (tfirst_far AW.out at_ F8.out).mono ?_); rintro e wc ⟨rfl, hbc⟩; have AW := Lib.hid (AW.out.below hbc); have BL := Lib.hid (BL.out.trans (hbc.mono BL.out.size)); clear hbc)
        | (go_at_call 21; (with_reducible refine (tall_far AW.out at_ F8.out).mono ?_); rintro e wc ⟨rfl, hbc⟩; have AW := Lib.hid (AW.out.below hbc); have BL := Lib.hid (BL.out.trans (hbc.mono BL.out.size)); clear hbc)
        | (go_at_call 29; (with_reducible refine (tchild_far AW.out at_ d F24.out).mono ?_); rintro e wc ⟨rfl, hbc⟩; have AW := Lib.hid (AW.out.below hbc); have BL := Lib.hid (BL.out.trans (hbc.mono BL.out.size)); clear hbc)
        | (go_at_call 30; (with_reducible refine (towner_far AW.out at_ F24.out).mono ?_); rintro e wc ⟨rfl, hbc⟩; have AW := Lib.hid (AW.out.below hbc); have BL := Lib.hid (BL.out.trans (hbc.mono BL.out.size)); clear hbc)
        | (go_at_call 25; (with_reducible refine (tred_far AW.out at_ F24.out).mono ?_); rintro e wc ⟨rfl, hbc⟩; have AW := Lib.hid (AW.out.below hbc); have BL := Lib.hid (BL.out.trans (hbc.mono BL.out.size)); clear hbc)
        | (go_at_call 16; (with_reducible refine (tadd_far AW.out 8 at_ 0 (Or.inr F24.out)).mono ?_); rintro e wc ⟨rfl, hbc⟩; have AW := Lib.hid (AW.out.below hbc); have BL := Lib.hid (BL.out.trans (hbc.mono BL.out.size)); clear hbc)
        | (go_at_call 13; (with_reducible refine (tremove_far AW.out 8 at_ (Or.inr F24.out)).mono ?_); rintro e wc ⟨rfl, hbc⟩; have AW := Lib.hid (AW.out.below hbc); have BL := Lib.hid (BL.out.trans (hbc.mono BL.out.size)); clear hbc))
      have H8 : Hid (hd 2048 (8 : Int) 8 = true) := Lib.hid rfl
      have H64 : Hid (hd 2048 (64 : Int) 24 = true) := Lib.hid rfl
      rcases HDL.out with hdl | hdl | hdl | hdl | hdl
      · have dA : ¬ (-1000000 : Int) < delta := by omega
        have eA : decide ((-1000000 : Int) < delta) = false := decide_eq_false dA
        clear hdl
        go_wp2_with (first
          | (go_at_call 16; (with_reducible refine (tadd_far AW.out at_ 64 (-8) (Or.inl F8.out)).mono ?_); rintro e wc ⟨rfl, hbc⟩; have AW := Lib.hid (AW.out.below hbc); have BL := Lib.hid (BL.out.trans (hbc.mono BL.out.size)); clear hbc)
          | (go_at_call 13; (with_reducible refine (tremove_far AW.out at_ 64 (Or.inl F8.out)).mono ?_); rintro e wc ⟨rfl, hbc⟩; have AW := Lib.hid (AW.out.below hbc); have BL := Lib.hid (BL.out.trans (hbc.mono BL.out.size)); clear hbc)
          | (go_at_call 28; (with_reducible refine (by2048 AW.out).mono ?_); rintro e wb2 ⟨rfl, hbk, hbb⟩; have BL := Lib.hid (BL.out.trans (hbb.mono BL.out.size)); generalize wc.heap.size = bb at hbk ⊢; replace hbk := Lib.hid hbk; clear hbb))
        have hz : Hid (∀ j : Nat, j < 2048 → wb2.cell? ⟨bb, j, none⟩ = some (.int .u8 0)) := Lib.hid fun j hj => by
          have h5 := hbk.out.cell j
          rw [row_at _ _ _ hj] at h5
          exact h5
        go_wp2_with fail
        go_loop [27] (fun v => ∃ j : Nat, j ≤ 2048 ∧ v = .int .i64 j) (fun v => 2048 - (intOf v).toNat)
        case atStart => exact ⟨0, Nat.zero_le _, rfl⟩
        case round =>
          obtain ⟨j, hj, rfl⟩ := hrel
          by_cases hjc : j < 2048
          · have hcj := hz.out j hjc
            go_wp2
            go_round
            case rel => exact ⟨j + 1, hjc, by go_num⟩
            case measure => simp [intOf]; omega
          · obtain rfl : j = 2048 := by omega
            go_wp2
            go_ret
            exact ⟨rfl, BL.out⟩
      · obtain ⟨dA, dB0⟩ := hdl
        have dB : ¬ delta < 1000000 := by omega
        have eA : decide ((-1000000 : Int) < delta) = true := decide_eq_true dA
        have eB : decide (delta < (1000000 : Int)) = false := decide_eq_false dB
        clear dB0
        go_wp2_with (first
          | (go_at_call 16; (with_reducible refine (tadd_far AW.out at_ 64 (-8) (Or.inl F8.out)).mono ?_); rintro e wc ⟨rfl, hbc⟩; have AW := Lib.hid (AW.out.below hbc); have BL := Lib.hid (BL.out.trans (hbc.mono BL.out.size)); clear hbc)
          | (go_at_call 13; (with_reducible refine (tremove_far AW.out at_ 64 (Or.inl F8.out)).mono ?_); rintro e wc ⟨rfl, hbc⟩; have AW := Lib.hid (AW.out.below hbc); have BL := Lib.hid (BL.out.trans (hbc.mono BL.out.size)); clear hbc)
          | (go_at_call 28; (with_reducible refine (by2048 AW.out).mono ?_); rintro e wb2 ⟨rfl, hbk, hbb⟩; have BL := Lib.hid (BL.out.trans (hbb.mono BL.out.size)); generalize wc.heap.size = bb at hbk ⊢; replace hbk := Lib.hid hbk; clear hbb))
        have hz : Hid (∀ j : Nat, j < 2048 → wb2.cell? ⟨bb, j, none⟩ = some (.int .u8 0)) := Lib.hid fun j hj => by
          have h5 := hbk.out.cell j
          rw [row_at _ _ _ hj] at h5
          exact h5
        go_wp2_with fail
        go_loop [27] (fun v => ∃ j : Nat, j ≤ 2048 ∧ v = .int .i64 j) (fun v => 2048 - (intOf v).toNat)
        case atStart => exact ⟨0, Nat.zero_le _, rfl⟩
        case round =>
          obtain ⟨j, hj, rfl⟩ := hrel
          by_cases hjc : j < 2048
          · have hcj := hz.out j hjc
            go_wp2
            go_round
            case rel => exact ⟨j + 1, hjc, by go_num⟩
            case measure => simp [intOf]; omega
          · obtain rfl : j = 2048 := by omega
            go_wp2
            go_ret
            exact ⟨rfl, BL.out⟩
      · obtain ⟨dA, dB, dC⟩ := hdl
        have hw : IntKind.i64.wrap (64 + delta) = 64 + delta := IntWalk.i64_in _ (by omega)
        have KF : Hid (64 + delta < 0 ∨ (2048 : Nat) - (8 : Int) < 64 + delta) := Lib.hid (.inl dC)
        have HWW := Lib.hid hw
        go_wp2_with (first
          | (go_at_call 16; (with_reducible refine (tadd_key AW.out 8 64 delta H8.out H64.out HWW.out KF.out).mono ?_); rintro e wc ⟨rfl, hbc⟩; have AW := Lib.hid (AW.out.below hbc); have BL := Lib.hid (BL.out.trans (hbc.mono BL.out.size)); clear hbc)
          | (go_at_call 16; (with_reducible refine (tadd_far AW.out at_ 64 (-8) (Or.inl F8.out)).mono ?_); rintro e wc ⟨rfl, hbc⟩; have AW := Lib.hid (AW.out.below hbc); have BL := Lib.hid (BL.out.trans (hbc.mono BL.out.size)); clear hbc)
          | (go_at_call 13; (with_reducible refine (tremove_far AW.out at_ 64 (Or.inl F8.out)).mono ?_); rintro e wc ⟨rfl, hbc⟩; have AW := Lib.hid (AW.out.below hbc); have BL := Lib.hid (BL.out.trans (hbc.mono BL.out.size)); clear hbc)
          | (go_at_call 28; (with_reducible refine (by2048 AW.out).mono ?_); rintro e wb2 ⟨rfl, hbk, hbb⟩; have BL := Lib.hid (BL.out.trans (hbb.mono BL.out.size)); generalize wc.heap.size = bb at hbk ⊢; replace hbk := Lib.hid hbk; clear hbb))
        have hz : Hid (∀ j : Nat, j < 2048 → wb2.cell? ⟨bb, j, none⟩ = some (.int .u8 0)) := Lib.hid fun j hj => by
          have h5 := hbk.out.cell j
          rw [row_at _ _ _ hj] at h5
          exact h5
        go_wp2_with fail
        go_loop [27] (fun v => ∃ j : Nat, j ≤ 2048 ∧ v = .int .i64 j) (fun v => 2048 - (intOf v).toNat)
        case atStart => exact ⟨0, Nat.zero_le _, rfl⟩
        case round =>
          obtain ⟨j, hj, rfl⟩ := hrel
          by_cases hjc : j < 2048
          · have hcj := hz.out j hjc
            go_wp2
            go_round
            case rel => exact ⟨j + 1, hjc, by go_num⟩
            case measure => simp [intOf]; omega
          · obtain rfl : j = 2048 := by omega
            go_wp2
            go_ret
            exact ⟨rfl, BL.out⟩
      · obtain ⟨dA, dB, dC, dD⟩ := hdl
        have hw : IntKind.i64.wrap (64 + delta) = 64 + delta := IntWalk.i64_in _ (by omega)
        have KF : Hid (64 + delta < 0 ∨ (2048 : Nat) - (8 : Int) < 64 + delta) := Lib.hid (.inr (by omega))
        have HWW := Lib.hid hw
        go_wp2_with (first
          | (go_at_call 16; (with_reducible refine (tadd_key AW.out 8 64 delta H8.out H64.out HWW.out KF.out).mono ?_); rintro e wc ⟨rfl, hbc⟩; have AW := Lib.hid (AW.out.below hbc); have BL := Lib.hid (BL.out.trans (hbc.mono BL.out.size)); clear hbc)
          | (go_at_call 16; (with_reducible refine (tadd_far AW.out at_ 64 (-8) (Or.inl F8.out)).mono ?_); rintro e wc ⟨rfl, hbc⟩; have AW := Lib.hid (AW.out.below hbc); have BL := Lib.hid (BL.out.trans (hbc.mono BL.out.size)); clear hbc)
          | (go_at_call 13; (with_reducible refine (tremove_far AW.out at_ 64 (Or.inl F8.out)).mono ?_); rintro e wc ⟨rfl, hbc⟩; have AW := Lib.hid (AW.out.below hbc); have BL := Lib.hid (BL.out.trans (hbc.mono BL.out.size)); clear hbc)
          | (go_at_call 28; (with_reducible refine (by2048 AW.out).mono ?_); rintro e wb2 ⟨rfl, hbk, hbb⟩; have BL := Lib.hid (BL.out.trans (hbb.mono BL.out.size)); generalize wc.heap.size = bb at hbk ⊢; replace hbk := Lib.hid hbk; clear hbb))
        have hz : Hid (∀ j : Nat, j < 2048 → wb2.cell? ⟨bb, j, none⟩ = some (.int .u8 0)) := Lib.hid fun j hj => by
          have h5 := hbk.out.cell j
          rw [row_at _ _ _ hj] at h5
          exact h5
        go_wp2_with fail
        go_loop [27] (fun v => ∃ j : Nat, j ≤ 2048 ∧ v = .int .i64 j) (fun v => 2048 - (intOf v).toNat)
        case atStart => exact ⟨0, Nat.zero_le _, rfl⟩
        case round =>
          obtain ⟨j, hj, rfl⟩ := hrel
          by_cases hjc : j < 2048
          · have hcj := hz.out j hjc
            go_wp2
            go_round
            case rel => exact ⟨j + 1, hjc, by go_num⟩
            case measure => simp [intOf]; omega
          · obtain rfl : j = 2048 := by omega
            go_wp2
            go_ret
            exact ⟨rfl, BL.out⟩
      · obtain ⟨dA, dB, dC, dD⟩ := hdl
        have hw : IntKind.i64.wrap (64 + delta) = 64 + delta := IntWalk.i64_in _ (by omega)
        go_wp2_with (first
          | (go_at_call 16; (with_reducible refine (tadd_far AW.out at_ 64 (-8) (Or.inl F8.out)).mono ?_); rintro e wc ⟨rfl, hbc⟩; have AW := Lib.hid (AW.out.below hbc); have BL := Lib.hid (BL.out.trans (hbc.mono BL.out.size)); clear hbc)
          | (go_at_call 13; (with_reducible refine (tremove_far AW.out at_ 64 (Or.inl F8.out)).mono ?_); rintro e wc ⟨rfl, hbc⟩; have AW := Lib.hid (AW.out.below hbc); have BL := Lib.hid (BL.out.trans (hbc.mono BL.out.size)); clear hbc)
          | (go_at_call 28; (with_reducible refine (by2048 AW.out).mono ?_); rintro e wb2 ⟨rfl, hbk, hbb⟩; have BL := Lib.hid (BL.out.trans (hbb.mono BL.out.size)); generalize wc.heap.size = bb at hbk ⊢; replace hbk := Lib.hid hbk; clear hbb))
        have hz : Hid (∀ j : Nat, j < 2048 → wb2.cell? ⟨bb, j, none⟩ = some (.int .u8 0)) := Lib.hid fun j hj => by
          have h5 := hbk.out.cell j
          rw [row_at _ _ _ hj] at h5
          exact h5
        go_wp2_with fail
        go_loop [27] (fun v => ∃ j : Nat, j ≤ 2048 ∧ v = .int .i64 j) (fun v => 2048 - (intOf v).toNat)
        case atStart => exact ⟨0, Nat.zero_le _, rfl⟩
        case round =>
          obtain ⟨j, hj, rfl⟩ := hrel
          by_cases hjc : j < 2048
          · have hcj := hz.out j hjc
            go_wp2
            go_round
            case rel => exact ⟨j + 1, hjc, by go_num⟩
            case measure => simp [intOf]; omega
          · obtain rfl : j = 2048 := by omega
            go_wp2
            go_ret
            exact ⟨rfl, BL.out⟩
    · obtain ⟨k, rfl⟩ : ∃ k : Nat, at_ = k := ⟨at_.toNat, by omega⟩
      have K1 : Hid (1 ≤ k) := Lib.hid (by omega)
      have K2 : Hid (k + 8 ≤ 2048) := Lib.hid (by omega)
      have q1 : decide ((k : Int) < 1) = false := decide_eq_false h1
      have q2 : decide (2040 < (k : Int)) = false := decide_eq_false h3
      by_cases h2 : 2024 < (k : Int)
      · have F24 : Hid (hd 2048 (k : Int) 24 = false) := Lib.hid (by unfold hd; rw [decide_eq_true (by omega), decide_eq_false (by omega)]; rfl)
        have q3 : decide (2024 < (k : Int)) = true := decide_eq_true h2
        have SH := Lib.hid (shown_any11 hT hB)
        have HT := Lib.hid hT
        have HWB := Lib.hid hB
        have FRS : Hid (∀ w1, Below w.heap.size w w1 → Calls Tryd.prog 11 #[.slice none 0 0] w1 fun e w' => ∃ p g, e = .returned (.pointer (some ⟨p, 0, none⟩)) ∧ Lx w w' p g (kf [] 0) s0 (fun _ => false) .e ∧ Below w1.heap.size w1 w') := Lib.hid fun w1 h1 =>
          fresh_any (HT.out.below h1 HWB.out) (Nat.lt_of_lt_of_le HWB.out h1.size) h1 (fun i x hx => by simp at hx) rfl (Nat.le_refl 0) (by decide)
        clear hT hB
        go_enter Tryd.func6, Tryd.ntmps6
        go_upto_region 18 with (first
          | (go_at_call 9; (with_reducible refine SH.out.mono ?_); rintro e wa ⟨rfl, hba⟩; have BA := Lib.hid hba; clear hba)
          | (go_at_call 11; (with_reducible refine (FRS.out _ BA.out).mono ?_); rintro e wb ⟨p, g, rfl, hL, hbb⟩; have AW : Hid (Aw wb p g 2048 (fun _ => 0)) := Lib.hid (Lw.zero ⟨_, _, hL⟩ (fun _ => rfl)); have BL := Lib.hid hL.bl; clear hL hbb)
          | (go_at_call 23; (with_reducible refine (troot_at AW.out k K1.out K2.out).mono ?_); rintro e wc ⟨rfl, hbc⟩; have AW := Lib.hid (AW.out.below hbc); have BL := Lib.hid (BL.out.trans (hbc.mono BL.out.size)); clear hbc)
          | (go_at_call 19; (with_reducible refine (first_at AW.out k K1.out K2.out).mono ?_); rintro e wc ⟨rfl, hbc⟩; have AW := Lib.hid (AW.out.below hbc); have BL := Lib.hid (BL.out.trans (hbc.mono BL.out.size)); clear hbc)
          | (go_at_call 21; (with_reducible refine (all_at AW.out k K1.out K2.out).mono ?_); rintro e wc ⟨⟨A5, cap5, rfl⟩, hbc⟩; have AW := Lib.hid (AW.out.below hbc); have BL := Lib.hid (BL.out.trans (hbc.mono BL.out.size)); clear hbc)
          | (go_at_call 29; (with_reducible refine (tchild_far AW.out (k : Int) d F24.out).mono ?_); rintro e wc ⟨rfl, hbc⟩; have AW := Lib.hid (AW.out.below hbc); have BL := Lib.hid (BL.out.trans (hbc.mono BL.out.size)); clear hbc)
          | (go_at_call 30; (with_reducible refine (towner_far AW.out (k : Int) F24.out).mono ?_); rintro e wc ⟨rfl, hbc⟩; have AW := Lib.hid (AW.out.below hbc); have BL := Lib.hid (BL.out.trans (hbc.mono BL.out.size)); clear hbc)
          | (go_at_call 25; (with_reducible refine (tred_far AW.out (k : Int) F24.out).mono ?_); rintro e wc ⟨rfl, hbc⟩; have AW := Lib.hid (AW.out.below hbc); have BL := Lib.hid (BL.out.trans (hbc.mono BL.out.size)); clear hbc)
          | (go_at_call 16; (with_reducible refine (tadd_far AW.out 8 (k : Int) 0 (Or.inr F24.out)).mono ?_); rintro e wc ⟨rfl, hbc⟩; have AW := Lib.hid (AW.out.below hbc); have BL := Lib.hid (BL.out.trans (hbc.mono BL.out.size)); clear hbc)
          | (go_at_call 13; (with_reducible refine (tremove_far AW.out 8 (k : Int) (Or.inr F24.out)).mono ?_); rintro e wc ⟨rfl, hbc⟩; have AW := Lib.hid (AW.out.below hbc); have BL := Lib.hid (BL.out.trans (hbc.mono BL.out.size)); clear hbc))
        have H8 : Hid (hd 2048 (8 : Int) 8 = true) := Lib.hid rfl
        have H64 : Hid (hd 2048 (64 : Int) 24 = true) := Lib.hid rfl
        rcases HDL.out with hdl | hdl | hdl | hdl | hdl
        · have dA : ¬ (-1000000 : Int) < delta := by omega
          have eA : decide ((-1000000 : Int) < delta) = false := decide_eq_false dA
          clear hdl
          go_wp2_with (go_at_call 28; (with_reducible refine (by2048 AW.out).mono ?_); rintro e wb2 ⟨rfl, hbk, hbb⟩; have BL := Lib.hid (BL.out.trans (hbb.mono BL.out.size)); generalize wc.heap.size = bb at hbk ⊢; replace hbk := Lib.hid hbk; clear hbb)
          have hz : Hid (∀ j : Nat, j < 2048 → wb2.cell? ⟨bb, j, none⟩ = some (.int .u8 0)) := Lib.hid fun j hj => by
            have h5 := hbk.out.cell j
            rw [row_at _ _ _ hj] at h5
            exact h5
          go_wp2_with fail
          go_loop [27] (fun v => ∃ j : Nat, j ≤ 2048 ∧ v = .int .i64 j) (fun v => 2048 - (intOf v).toNat)
          case atStart => exact ⟨0, Nat.zero_le _, rfl⟩
          case round =>
            obtain ⟨j, hj, rfl⟩ := hrel
            by_cases hjc : j < 2048
            · have hcj := hz.out j hjc
              go_wp2
              go_round
              case rel => exact ⟨j + 1, hjc, by go_num⟩
              case measure => simp [intOf]; omega
            · obtain rfl : j = 2048 := by omega
              go_wp2
              go_ret
              exact ⟨rfl, BL.out⟩
        · obtain ⟨dA, dB0⟩ := hdl
          have dB : ¬ delta < 1000000 := by omega
          have eA : decide ((-1000000 : Int) < delta) = true := decide_eq_true dA
          have eB : decide (delta < (1000000 : Int)) = false := decide_eq_false dB
          clear dB0
          go_wp2_with (go_at_call 28; (with_reducible refine (by2048 AW.out).mono ?_); rintro e wb2 ⟨rfl, hbk, hbb⟩; have BL := Lib.hid (BL.out.trans (hbb.mono BL.out.size)); generalize wc.heap.size = bb at hbk ⊢; replace hbk := Lib.hid hbk; clear hbb)
          have hz : Hid (∀ j : Nat, j < 2048 → wb2.cell? ⟨bb, j, none⟩ = some (.int .u8 0)) := Lib.hid fun j hj => by
            have h5 := hbk.out.cell j
            rw [row_at _ _ _ hj] at h5
            exact h5
          go_wp2_with fail
          go_loop [27] (fun v => ∃ j : Nat, j ≤ 2048 ∧ v = .int .i64 j) (fun v => 2048 - (intOf v).toNat)
          case atStart => exact ⟨0, Nat.zero_le _, rfl⟩
          case round =>
            obtain ⟨j, hj, rfl⟩ := hrel
            by_cases hjc : j < 2048
            · have hcj := hz.out j hjc
              go_wp2
              go_round
              case rel => exact ⟨j + 1, hjc, by go_num⟩
              case measure => simp [intOf]; omega
            · obtain rfl : j = 2048 := by omega
              go_wp2
              go_ret
              exact ⟨rfl, BL.out⟩
        · obtain ⟨dA, dB, dC⟩ := hdl
          have hw : IntKind.i64.wrap (64 + delta) = 64 + delta := IntWalk.i64_in _ (by omega)
          have KF : Hid (64 + delta < 0 ∨ (2048 : Nat) - (8 : Int) < 64 + delta) := Lib.hid (.inl dC)
          have HWW := Lib.hid hw
          go_wp2_with (first
            | (go_at_call 16; (with_reducible refine (tadd_key AW.out 8 64 delta H8.out H64.out HWW.out KF.out).mono ?_); rintro e wc ⟨rfl, hbc⟩; have AW := Lib.hid (AW.out.below hbc); have BL := Lib.hid (BL.out.trans (hbc.mono BL.out.size)); clear hbc)
            | (go_at_call 28; (with_reducible refine (by2048 AW.out).mono ?_); rintro e wb2 ⟨rfl, hbk, hbb⟩; have BL := Lib.hid (BL.out.trans (hbb.mono BL.out.size)); generalize wc.heap.size = bb at hbk ⊢; replace hbk := Lib.hid hbk; clear hbb))
          have hz : Hid (∀ j : Nat, j < 2048 → wb2.cell? ⟨bb, j, none⟩ = some (.int .u8 0)) := Lib.hid fun j hj => by
            have h5 := hbk.out.cell j
            rw [row_at _ _ _ hj] at h5
            exact h5
          go_wp2_with fail
          go_loop [27] (fun v => ∃ j : Nat, j ≤ 2048 ∧ v = .int .i64 j) (fun v => 2048 - (intOf v).toNat)
          case atStart => exact ⟨0, Nat.zero_le _, rfl⟩
          case round =>
            obtain ⟨j, hj, rfl⟩ := hrel
            by_cases hjc : j < 2048
            · have hcj := hz.out j hjc
              go_wp2
              go_round
              case rel => exact ⟨j + 1, hjc, by go_num⟩
              case measure => simp [intOf]; omega
            · obtain rfl : j = 2048 := by omega
              go_wp2
              go_ret
              exact ⟨rfl, BL.out⟩
        · obtain ⟨dA, dB, dC, dD⟩ := hdl
          have hw : IntKind.i64.wrap (64 + delta) = 64 + delta := IntWalk.i64_in _ (by omega)
          have KF : Hid (64 + delta < 0 ∨ (2048 : Nat) - (8 : Int) < 64 + delta) := Lib.hid (.inr (by omega))
          have HWW := Lib.hid hw
          go_wp2_with (first
            | (go_at_call 16; (with_reducible refine (tadd_key AW.out 8 64 delta H8.out H64.out HWW.out KF.out).mono ?_); rintro e wc ⟨rfl, hbc⟩; have AW := Lib.hid (AW.out.below hbc); have BL := Lib.hid (BL.out.trans (hbc.mono BL.out.size)); clear hbc)
            | (go_at_call 28; (with_reducible refine (by2048 AW.out).mono ?_); rintro e wb2 ⟨rfl, hbk, hbb⟩; have BL := Lib.hid (BL.out.trans (hbb.mono BL.out.size)); generalize wc.heap.size = bb at hbk ⊢; replace hbk := Lib.hid hbk; clear hbb))
          have hz : Hid (∀ j : Nat, j < 2048 → wb2.cell? ⟨bb, j, none⟩ = some (.int .u8 0)) := Lib.hid fun j hj => by
            have h5 := hbk.out.cell j
            rw [row_at _ _ _ hj] at h5
            exact h5
          go_wp2_with fail
          go_loop [27] (fun v => ∃ j : Nat, j ≤ 2048 ∧ v = .int .i64 j) (fun v => 2048 - (intOf v).toNat)
          case atStart => exact ⟨0, Nat.zero_le _, rfl⟩
          case round =>
            obtain ⟨j, hj, rfl⟩ := hrel
            by_cases hjc : j < 2048
            · have hcj := hz.out j hjc
              go_wp2
              go_round
              case rel => exact ⟨j + 1, hjc, by go_num⟩
              case measure => simp [intOf]; omega
            · obtain rfl : j = 2048 := by omega
              go_wp2
              go_ret
              exact ⟨rfl, BL.out⟩
        · obtain ⟨dA, dB, dC, dD⟩ := hdl
          have hw : IntKind.i64.wrap (64 + delta) = 64 + delta := IntWalk.i64_in _ (by omega)
          go_wp2_with (go_at_call 28; (with_reducible refine (by2048 AW.out).mono ?_); rintro e wb2 ⟨rfl, hbk, hbb⟩; have BL := Lib.hid (BL.out.trans (hbb.mono BL.out.size)); generalize wc.heap.size = bb at hbk ⊢; replace hbk := Lib.hid hbk; clear hbb)
          have hz : Hid (∀ j : Nat, j < 2048 → wb2.cell? ⟨bb, j, none⟩ = some (.int .u8 0)) := Lib.hid fun j hj => by
            have h5 := hbk.out.cell j
            rw [row_at _ _ _ hj] at h5
            exact h5
          go_wp2_with fail
          go_loop [27] (fun v => ∃ j : Nat, j ≤ 2048 ∧ v = .int .i64 j) (fun v => 2048 - (intOf v).toNat)
          case atStart => exact ⟨0, Nat.zero_le _, rfl⟩
          case round =>
            obtain ⟨j, hj, rfl⟩ := hrel
            by_cases hjc : j < 2048
            · have hcj := hz.out j hjc
              go_wp2
              go_round
              case rel => exact ⟨j + 1, hjc, by go_num⟩
              case measure => simp [intOf]; omega
            · obtain rfl : j = 2048 := by omega
              go_wp2
              go_ret
              exact ⟨rfl, BL.out⟩
      · have K3 : Hid (k + 24 ≤ 2048) := Lib.hid (by omega)
        have q3 : decide (2024 < (k : Int)) = false := decide_eq_false h2
        have TG : Hid (tgv (fun _ => 0) k 16 = if false = true then 1 else 0) := Lib.hid (tgv0 k 16)
        have SH := Lib.hid (shown_any11 hT hB)
        have HT := Lib.hid hT
        have HWB := Lib.hid hB
        have FRS : Hid (∀ w1, Below w.heap.size w w1 → Calls Tryd.prog 11 #[.slice none 0 0] w1 fun e w' => ∃ p g, e = .returned (.pointer (some ⟨p, 0, none⟩)) ∧ Lx w w' p g (kf [] 0) s0 (fun _ => false) .e ∧ Below w1.heap.size w1 w') := Lib.hid fun w1 h1 =>
          fresh_any (HT.out.below h1 HWB.out) (Nat.lt_of_lt_of_le HWB.out h1.size) h1 (fun i x hx => by simp at hx) rfl (Nat.le_refl 0) (by decide)
        clear hT hB
        go_enter Tryd.func6, Tryd.ntmps6
        go_upto_region 18 with (first
          | (go_at_call 9; (with_reducible refine SH.out.mono ?_); rintro e wa ⟨rfl, hba⟩; have BA := Lib.hid hba; clear hba)
          | (go_at_call 11; (with_reducible refine (FRS.out _ BA.out).mono ?_); rintro e wb ⟨p, g, rfl, hL, hbb⟩; have AW : Hid (Aw wb p g 2048 (fun _ => 0)) := Lib.hid (Lw.zero ⟨_, _, hL⟩ (fun _ => rfl)); have BL := Lib.hid hL.bl; clear hL hbb)
          | (go_at_call 23; (with_reducible refine (troot_at AW.out k K1.out K2.out).mono ?_); rintro e wc ⟨rfl, hbc⟩; have AW := Lib.hid (AW.out.below hbc); have BL := Lib.hid (BL.out.trans (hbc.mono BL.out.size)); clear hbc)
          | (go_at_call 19; (with_reducible refine (first_at AW.out k K1.out K2.out).mono ?_); rintro e wc ⟨rfl, hbc⟩; have AW := Lib.hid (AW.out.below hbc); have BL := Lib.hid (BL.out.trans (hbc.mono BL.out.size)); clear hbc)
          | (go_at_call 21; (with_reducible refine (all_at AW.out k K1.out K2.out).mono ?_); rintro e wc ⟨⟨A5, cap5, rfl⟩, hbc⟩; have AW := Lib.hid (AW.out.below hbc); have BL := Lib.hid (BL.out.trans (hbc.mono BL.out.size)); clear hbc)
          | (go_at_call 29; (with_reducible refine (tchild_at AW.out k d K1.out K3.out).mono ?_); rintro e wc ⟨rfl, hbc⟩; have AW := Lib.hid (AW.out.below hbc); have BL := Lib.hid (BL.out.trans (hbc.mono BL.out.size)); clear hbc)
          | (go_at_call 30; (with_reducible refine (towner_at AW.out k K1.out K3.out).mono ?_); rintro e wc ⟨rfl, hbc⟩; have AW := Lib.hid (AW.out.below hbc); have BL := Lib.hid (BL.out.trans (hbc.mono BL.out.size)); clear hbc)
          | (go_at_call 25; (with_reducible refine (tred_at AW.out k false K1.out K3.out TG.out).mono ?_); rintro e wc ⟨rfl, hbc⟩; have AW := Lib.hid (AW.out.below hbc); have BL := Lib.hid (BL.out.trans (hbc.mono BL.out.size)); clear hbc))
        have H8 : Hid (hd 2048 (8 : Int) 8 = true) := Lib.hid rfl
        have H64 : Hid (hd 2048 (64 : Int) 24 = true) := Lib.hid rfl
        rcases HDL.out with hdl | hdl | hdl | hdl | hdl
        · have dA : ¬ (-1000000 : Int) < delta := by omega
          have eA : decide ((-1000000 : Int) < delta) = false := decide_eq_false dA
          clear hdl
          go_wp2_with (go_at_call 28; (with_reducible refine (by2048 AW.out).mono ?_); rintro e wb2 ⟨rfl, hbk, hbb⟩; have BL := Lib.hid (BL.out.trans (hbb.mono BL.out.size)); generalize wc.heap.size = bb at hbk ⊢; replace hbk := Lib.hid hbk; clear hbb)
          have hz : Hid (∀ j : Nat, j < 2048 → wb2.cell? ⟨bb, j, none⟩ = some (.int .u8 0)) := Lib.hid fun j hj => by
            have h5 := hbk.out.cell j
            rw [row_at _ _ _ hj] at h5
            exact h5
          go_wp2_with fail
          go_loop [27] (fun v => ∃ j : Nat, j ≤ 2048 ∧ v = .int .i64 j) (fun v => 2048 - (intOf v).toNat)
          case atStart => exact ⟨0, Nat.zero_le _, rfl⟩
          case round =>
            obtain ⟨j, hj, rfl⟩ := hrel
            by_cases hjc : j < 2048
            · have hcj := hz.out j hjc
              go_wp2
              go_round
              case rel => exact ⟨j + 1, hjc, by go_num⟩
              case measure => simp [intOf]; omega
            · obtain rfl : j = 2048 := by omega
              go_wp2
              go_ret
              exact ⟨rfl, BL.out⟩
        · obtain ⟨dA, dB0⟩ := hdl
          have dB : ¬ delta < 1000000 := by omega
          have eA : decide ((-1000000 : Int) < delta) = true := decide_eq_true dA
          have eB : decide (delta < (1000000 : Int)) = false := decide_eq_false dB
          clear dB0
          go_wp2_with (go_at_call 28; (with_reducible refine (by2048 AW.out).mono ?_); rintro e wb2 ⟨rfl, hbk, hbb⟩; have BL := Lib.hid (BL.out.trans (hbb.mono BL.out.size)); generalize wc.heap.size = bb at hbk ⊢; replace hbk := Lib.hid hbk; clear hbb)
          have hz : Hid (∀ j : Nat, j < 2048 → wb2.cell? ⟨bb, j, none⟩ = some (.int .u8 0)) := Lib.hid fun j hj => by
            have h5 := hbk.out.cell j
            rw [row_at _ _ _ hj] at h5
            exact h5
          go_wp2_with fail
          go_loop [27] (fun v => ∃ j : Nat, j ≤ 2048 ∧ v = .int .i64 j) (fun v => 2048 - (intOf v).toNat)
          case atStart => exact ⟨0, Nat.zero_le _, rfl⟩
          case round =>
            obtain ⟨j, hj, rfl⟩ := hrel
            by_cases hjc : j < 2048
            · have hcj := hz.out j hjc
              go_wp2
              go_round
              case rel => exact ⟨j + 1, hjc, by go_num⟩
              case measure => simp [intOf]; omega
            · obtain rfl : j = 2048 := by omega
              go_wp2
              go_ret
              exact ⟨rfl, BL.out⟩
        · obtain ⟨dA, dB, dC⟩ := hdl
          have hw : IntKind.i64.wrap (64 + delta) = 64 + delta := IntWalk.i64_in _ (by omega)
          have KF : Hid (64 + delta < 0 ∨ (2048 : Nat) - (8 : Int) < 64 + delta) := Lib.hid (.inl dC)
          have HWW := Lib.hid hw
          go_wp2_with (first
            | (go_at_call 16; (with_reducible refine (tadd_key AW.out 8 64 delta H8.out H64.out HWW.out KF.out).mono ?_); rintro e wc ⟨rfl, hbc⟩; have AW := Lib.hid (AW.out.below hbc); have BL := Lib.hid (BL.out.trans (hbc.mono BL.out.size)); clear hbc)
            | (go_at_call 28; (with_reducible refine (by2048 AW.out).mono ?_); rintro e wb2 ⟨rfl, hbk, hbb⟩; have BL := Lib.hid (BL.out.trans (hbb.mono BL.out.size)); generalize wc.heap.size = bb at hbk ⊢; replace hbk := Lib.hid hbk; clear hbb))
          have hz : Hid (∀ j : Nat, j < 2048 → wb2.cell? ⟨bb, j, none⟩ = some (.int .u8 0)) := Lib.hid fun j hj => by
            have h5 := hbk.out.cell j
            rw [row_at _ _ _ hj] at h5
            exact h5
          go_wp2_with fail
          go_loop [27] (fun v => ∃ j : Nat, j ≤ 2048 ∧ v = .int .i64 j) (fun v => 2048 - (intOf v).toNat)
          case atStart => exact ⟨0, Nat.zero_le _, rfl⟩
          case round =>
            obtain ⟨j, hj, rfl⟩ := hrel
            by_cases hjc : j < 2048
            · have hcj := hz.out j hjc
              go_wp2
              go_round
              case rel => exact ⟨j + 1, hjc, by go_num⟩
              case measure => simp [intOf]; omega
            · obtain rfl : j = 2048 := by omega
              go_wp2
              go_ret
              exact ⟨rfl, BL.out⟩
        · obtain ⟨dA, dB, dC, dD⟩ := hdl
          have hw : IntKind.i64.wrap (64 + delta) = 64 + delta := IntWalk.i64_in _ (by omega)
          have KF : Hid (64 + delta < 0 ∨ (2048 : Nat) - (8 : Int) < 64 + delta) := Lib.hid (.inr (by omega))
          have HWW := Lib.hid hw
          go_wp2_with (first
            | (go_at_call 16; (with_reducible refine (tadd_key AW.out 8 64 delta H8.out H64.out HWW.out KF.out).mono ?_); rintro e wc ⟨rfl, hbc⟩; have AW := Lib.hid (AW.out.below hbc); have BL := Lib.hid (BL.out.trans (hbc.mono BL.out.size)); clear hbc)
            | (go_at_call 28; (with_reducible refine (by2048 AW.out).mono ?_); rintro e wb2 ⟨rfl, hbk, hbb⟩; have BL := Lib.hid (BL.out.trans (hbb.mono BL.out.size)); generalize wc.heap.size = bb at hbk ⊢; replace hbk := Lib.hid hbk; clear hbb))
          have hz : Hid (∀ j : Nat, j < 2048 → wb2.cell? ⟨bb, j, none⟩ = some (.int .u8 0)) := Lib.hid fun j hj => by
            have h5 := hbk.out.cell j
            rw [row_at _ _ _ hj] at h5
            exact h5
          go_wp2_with fail
          go_loop [27] (fun v => ∃ j : Nat, j ≤ 2048 ∧ v = .int .i64 j) (fun v => 2048 - (intOf v).toNat)
          case atStart => exact ⟨0, Nat.zero_le _, rfl⟩
          case round =>
            obtain ⟨j, hj, rfl⟩ := hrel
            by_cases hjc : j < 2048
            · have hcj := hz.out j hjc
              go_wp2
              go_round
              case rel => exact ⟨j + 1, hjc, by go_num⟩
              case measure => simp [intOf]; omega
            · obtain rfl : j = 2048 := by omega
              go_wp2
              go_ret
              exact ⟨rfl, BL.out⟩
        · obtain ⟨dA, dB, dC, dD⟩ := hdl
          have hw : IntKind.i64.wrap (64 + delta) = 64 + delta := IntWalk.i64_in _ (by omega)
          go_wp2_with (go_at_call 28; (with_reducible refine (by2048 AW.out).mono ?_); rintro e wb2 ⟨rfl, hbk, hbb⟩; have BL := Lib.hid (BL.out.trans (hbb.mono BL.out.size)); generalize wc.heap.size = bb at hbk ⊢; replace hbk := Lib.hid hbk; clear hbb)
          have hz : Hid (∀ j : Nat, j < 2048 → wb2.cell? ⟨bb, j, none⟩ = some (.int .u8 0)) := Lib.hid fun j hj => by
            have h5 := hbk.out.cell j
            rw [row_at _ _ _ hj] at h5
            exact h5
          go_wp2_with fail
          go_loop [27] (fun v => ∃ j : Nat, j ≤ 2048 ∧ v = .int .i64 j) (fun v => 2048 - (intOf v).toNat)
          case atStart => exact ⟨0, Nat.zero_le _, rfl⟩
          case round =>
            obtain ⟨j, hj, rfl⟩ := hrel
            by_cases hjc : j < 2048
            · have hcj := hz.out j hjc
              go_wp2
              go_round
              case rel => exact ⟨j + 1, hjc, by go_num⟩
              case measure => simp [intOf]; omega
            · obtain rfl : j = 2048 := by omega
              go_wp2
              go_ret
              exact ⟨rfl, BL.out⟩
end Go.Proofs.YtiacclmapicmdaaDoor
