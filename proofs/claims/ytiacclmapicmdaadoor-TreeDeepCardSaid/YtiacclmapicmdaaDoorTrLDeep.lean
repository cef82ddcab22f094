/- The walk of TreeDeep: it returns true, and nothing that was there has turned. Condition: the table of widths lies in its block. -/
import Derived.Test.YtiacclmapicmdaaDoorTrOpen
import Derived.Deep.LoopGhost
namespace Go.Proofs.YtiacclmapicmdaaDoor
open Go.RowKit

set_option maxRecDepth 100000 in
set_option maxHeartbeats 8000000 in
theorem deep_walk11 (A : Option Addr) (len cap : Nat) (w : World) (hD : Keys w A len cap ∧ len ≤ 9223372036854775807) (hT : Tab w) (hB : 0 < w.heap.size) :
    Calls Tryd.prog 8 #[.slice A len cap] w fun e w' => e = .returned (.bool true) ∧ Below w.heap.size w w' := by
  obtain ⟨⟨⟨ys, hys, hkz⟩, hlc⟩, _⟩ := hD
  obtain ⟨m, hm⟩ : ∃ m, m = min len 40 := ⟨_, rfl⟩
  obtain ⟨xs, hxs⟩ : ∃ xs, xs = ys.take m := ⟨_, rfl⟩
  have hxl : xs.length = m := by rw [hxs, List.length_take, hys]; omega
  have hkx : Kz w A xs := by rw [hxs]; exact hkz.take m
  have h40 : m ≤ 40 := by omega
  have FW : Hid (∀ w, Calls Tryd.prog 10 #[.slice A len cap] w fun e w' => (∃ cap', e = .returned (.slice A m cap') ∧ m ≤ cap') ∧ w = w') := Lib.hid fun w => by rw [hm]; exact few_any A len cap hlc w
  have SH := Lib.hid (shown_any11 hT hB)
  have HT := Lib.hid hT
  have HKX := Lib.hid hkx
  have HXL := Lib.hid hxl
  have HWB := Lib.hid hB
  have KYS : Hid (∀ p g, Ky (mkC p g (kf xs m)) (-8) (keyOf xs)) := Lib.hid fun p g => by
    have := ky40 p g xs hkx.lt
    rwa [hxl] at this
  have FRS : Hid (∀ w1 cap', Below w.heap.size w w1 → m ≤ cap' → Calls Tryd.prog 11 #[.slice A m cap'] w1 fun e w' => ∃ p g, e = .returned (.pointer (some ⟨p, 0, none⟩)) ∧ Lx w w' p g (kf xs m) s0 (fun _ => false) .e ∧ Below w1.heap.size w1 w') := Lib.hid fun w1 cap' h1 h2 =>
    fresh_any (HT.out.below h1 HWB.out) (Nat.lt_of_lt_of_le HWB.out h1.size) h1 (HKX.out.below h1) HXL.out h2 h40
  clear hxs hys hkz hkx hxl hlc hT hB hm
  go_enter Tryd.func8, Tryd.ntmps8
  go_wp2_with (first
    | (go_at_call 9; (with_reducible refine SH.out.mono ?_); rintro e wa ⟨rfl, hba⟩; have BA := Lib.hid hba; clear hba)
    | (go_at_call 10; (with_reducible refine (FW.out _).mono ?_); rintro e wf ⟨⟨cap', rfl, hcap⟩, rfl⟩; have HCAP := Lib.hid hcap; clear hcap)
    | (go_at_call 11; (with_reducible refine (FRS.out _ _ BA.out HCAP.out).mono ?_); rintro e wb ⟨p, g, rfl, hL, hbb⟩; have L0 : Hid (Lw w wb p g (kf xs m) .e) := Lib.hid ⟨_, _, hL⟩; have KY := Lib.hid (KYS.out p g); clear hL hbb))
  go_loopg [5] m (fun gk v5 wr => ∃ i : Nat, i + gk = m ∧ v5 = .int .i64 (i : Nat) ∧ Hid (Lw w wr p g (kf xs m) (bld (keyOf xs) i)))
  case atStart => exact ⟨0, by omega, rfl, L0⟩
  case round =>
    obtain ⟨i, hi, rfl, hL⟩ := hrel
    cases gk with
    | succ gk =>
      have him : i < m := by omega
      have ix2 : ((i : Nat) : Int) < (m : Nat) := by omega
      have hw1 : IntKind.i64.wrap ((i : Int) + 1) = (i : Int) + 1 := IntWalk.i64_in _ (by omega)
      have LF : Hid (∀ w, Calls Tryd.prog 14 #[.int .i64 ((i : Int) + 1)] w fun e w' => e = .returned (.int .i64 (32 * ((i : Int) + 1))) ∧ w = w') := Lib.hid fun w => leaf_int _ _ (by omega) rfl w
      have hn40 : Hid (N40 (i + 1)) := Lib.hid ⟨by omega, by omega⟩
      have AD := Lib.hid (hL.out.add_ok KY.out (k := i + 1) (a := 32 * ((i : Int) + 1)) hn40.out (fun h => by have := (bld_mem _ _ _).1 h; omega) (by omega))
      clear him
      go_wp2_with (first
        | (go_at_call 14; (with_reducible refine (LF.out _).mono ?_); rintro e wl ⟨rfl, rfl⟩)
        | (go_at_call 16; (with_reducible refine (AD.out).mono ?_); rintro e wd ⟨rfl, hL, hf⟩; have L1 := Lib.hid hL; clear hL hf; skip))
      go_roundg gk
      case measure => omega
      case rel => exact ⟨i + 1, by omega, by go_num, L1⟩
    | zero =>
      obtain rfl : i = m := by omega
      have LM := hL
      clear hi hL
      obtain ⟨T0, hT0⟩ : ∃ T0, T0 = bld (keyOf xs) i := ⟨_, rfl⟩
      have hlen : Hid (T0.ns.length = i) := Lib.hid (by rw [hT0]; exact bld_len _ _)
      rw [← hT0] at LM
      clear hT0
      have hw1 : IntKind.i64.wrap ((i : Int) + 1) = (i : Int) + 1 := IntWalk.i64_in _ (by omega)
      go_wp2_with fail
      go_loopg [6, 7] (i + 1) (fun gk v6 v7 wr => ∃ b n : Nat, v6 = .int .i64 (b : Nat) ∧ v7 = .int .i64 (n : Nat) ∧ gk = n ∧ 1 ≤ n ∧ n ≤ i + 1 ∧ b ≤ 41 ∧ b + n ≤ 42 ∧ Hid (i + 1 < 2 ^ b * (n + 1)) ∧ Hid (Lw w wr p g (kf xs i) T0))
      case atStart => exact ⟨0, i + 1, rfl, by go_num, rfl, by omega, Nat.le_refl _, by omega, by omega, Lib.hid (by simp), LM⟩
      case round =>
        obtain ⟨b, n, rfl, rfl, hgn, hn1, hn2, hb, hbn, hpow, hL⟩ := hrel
        obtain rfl : n = gk := hgn.symm
        by_cases h1 : n = 1
        · subst h1
          obtain ⟨s, I, hX⟩ := hL.out
          have LX := Lib.hid hX
          have hrb := hX.tx.rb
          have hl := hlen.out
          have hd : Hid (deep T0 ≤ 2 * b) := Lib.hid (deep_rb hrb (by have := hpow.out; rw [hl, Nat.pow_succ]; omega))
          have hd50 : Hid (deep T0 ≤ 50) := Lib.hid (by
            have := deep_rb hrb (b := 6) (by have : 2 ^ (6 + 1) = 128 := rfl; omega)
            omega)
          have RT := Lib.hid (hX.root (a := 32 * (T0.root : Nat)) (by omega))
          have hdI : ((deep T0 : Nat) : Int) ≤ 2 * (b : Nat) + 1 := by have := hd.out; omega
          have hdN : deep T0 ≤ 2 * b + 1 := by have := hd.out; omega
          have hwA : IntKind.i64.wrap (2 * (b : Int)) = 2 * (b : Int) := IntWalk.i64_in _ (by omega)
          have hwB : IntKind.i64.wrap (2 * (b : Int) + 1) = 2 * (b : Int) + 1 := IntWalk.i64_in _ (by omega)
          have hat : Hid (At s T0 T0.root 0) := Lib.hid (by have := hX.tx.al.at_; rwa [this.root] at this)
          have DP : Hid (∀ w', Lx w w' p g (kf xs i) s I T0 → Calls Tryd.prog 31 #[.pointer (some ⟨p, 0, none⟩), .int .i64 (32 * (T0.root : Nat)), .int .i64 50] w' fun e w'' => e = .returned (.int .i64 (deep T0 : Nat)) ∧ Below w'.heap.size w' w'') := Lib.hid fun w' L =>
            deepest_ok (most := 50) T0 hat.out L.tx.nN hd50.out (by omega) L
          clear hrb hl hpow hL hX hn1 hn2
          go_wp2_with (first
            | (go_at_call 23; (with_reducible refine RT.out.mono ?_); rintro e wx ⟨rfl, hb1⟩; have LX := Lib.hid (LX.out.below hb1); clear hb1)
            | (go_at_call 31; (with_reducible refine (DP.out _ LX.out).mono ?_); rintro e wx ⟨rfl, hb1⟩; have LX := Lib.hid (LX.out.below hb1); clear hb1))
          go_ret
          exact ⟨rfl, LX.out.bl⟩
        · have hgt : (1 : Int) < (n : Nat) := by omega
          have hpow2 : Hid (i + 1 < 2 ^ (b + 1) * (n / 2 + 1)) := Lib.hid (by
            have h2 := hpow.out
            rw [Nat.pow_succ]
            have h3 : n + 1 ≤ 2 * (n / 2 + 1) := by omega
            have h4 := Nat.mul_le_mul_left (2 ^ b) h3
            have h5 : 2 ^ b * 2 * (n / 2 + 1) = 2 ^ b * (2 * (n / 2 + 1)) := by rw [Nat.mul_assoc]
            omega)
          have hwb : IntKind.i64.wrap ((b : Int) + 1) = (b : Int) + 1 := IntWalk.i64_in _ (by omega)
          clear hpow
          go_wp2_with fail
          go_roundg (n / 2)
          case measure => omega
          case rel => exact ⟨b + 1, n / 2, by go_num, by go_num, rfl, by omega, by omega, by omega, by omega, hpow2, hL⟩
end Go.Proofs.YtiacclmapicmdaaDoor
