/- The contract of the document's Same, at two rows of the same types. Condition: both can be read. -/
import Derived.Test.YtnkjlocjfljjlaaTLayout
import Derived.StillTailTactics
import Derived.Deep.QuietTactic
import Derived.BigQuiet
namespace Go.Proofs.Ytnkjlocjfljjlaa
open Go.RowKit
set_option maxRecDepth 100000
set_option maxHeartbeats 4000000
section
variable {w : World}
theorem same5_any (A A' : Option Addr) (n cap n' cap' : Nat) (ts : List Ty) (h : Lt w A n cap ts) (h' : Lt w A' n' cap' ts) :
    Calls Try.prog 21 #[.slice A n cap, .slice A' n' cap'] w fun e w' => e = .returned (.bool true) ∧ Below w.heap.size w w' := by
  have hle := h.le
  have hmx := h.max
  have hle' := h'.le
  have hmx' := h'.max
  obtain rfl : n = n' := h.len.symm.trans h'.len
  have H := Lib.hid h
  have H' := Lib.hid h'
  clear h h'
  go_enter Try.func21, Try.ntmps21
  go_wp2_with fail
  go_loopw [5] (fun i wr => ∃ j : Nat, j ≤ n ∧ i = .int .i64 j ∧ Hid (Below w.heap.size w wr)) (fun i _ => n - (intOf i).toNat)
  case atStart => exact ⟨0, Nat.zero_le _, rfl, Below.refl _ _⟩
  case round =>
    obtain ⟨j, hj, rfl, HW⟩ := hrel
    by_cases hlt : j < n
    · obtain ⟨b, o, t, FA, fk, fc, rfl, hu, hnm, hb, c0, c1, c2, c3, hf⟩ := H.out.at j hlt
      obtain ⟨b', o', t', FA', fk', fc', rfl, hu', hnm', hb', c0', c1', c2', c3', hf'⟩ := H'.out.at j hlt
      obtain rfl : t = t' := by
        have := hu.out.symm.trans hu'.out
        injection this
      have hji : (j : Int) < (n : Int) := by omega
      have hws := HW.out.size
      obtain ⟨tn, tv, tr, fs⟩ := t
      simp only at c0 c1 c2 c0' c1' c2' hf hf' hnm
      obtain rfl : fk = fk' := hf.out.len.symm.trans hf'.out.len
      have hfl := hf.out.le
      have hfm := hf.out.max
      have hfl' := hf'.out.le
      have hfm' := hf'.out.max
      have C3 := Lib.hid c3
      have C3' := Lib.hid c3'
      replace c0 := (HW.out.cell (p := ⟨b, o + j * 4, none⟩) hb).trans c0
      replace c1 := (HW.out.cell (p := ⟨b, o + j * 4 + 1, none⟩) hb).trans c1
      replace c2 := (HW.out.cell (p := ⟨b, o + j * 4 + 2, none⟩) hb).trans c2
      replace c3 := (HW.out.cell (p := ⟨b, o + j * 4 + 3, none⟩) hb).trans c3
      replace c0' := (HW.out.cell (p := ⟨b', o' + j * 4, none⟩) hb').trans c0'
      replace c1' := (HW.out.cell (p := ⟨b', o' + j * 4 + 1, none⟩) hb').trans c1'
      replace c2' := (HW.out.cell (p := ⟨b', o' + j * 4 + 2, none⟩) hb').trans c2'
      replace c3' := (HW.out.cell (p := ⟨b', o' + j * 4 + 3, none⟩) hb').trans c3'
      clear hnm' hu hu'
      go_wp2_with fail
      go_quiet (fail)
      have HW1 := Lib.hid (below_drewN HW.out nq)
      go_wp2_with fail
      clear c0 c1 c2 c3 c0' c1' c2' c3'
      go_loopw [6] (fun i wr => ∃ m : Nat, m ≤ fk ∧ i = .int .i64 m ∧ Hid (Below w.heap.size w wr)) (fun i _ => fk - (intOf i).toNat)
      case atStart => exact ⟨0, Nat.zero_le _, rfl, HW1.out⟩
      case round =>
        clear HW HW1 hws
        obtain ⟨m, hm, rfl, HW⟩ := hrel
        have c3 := (HW.out.cell (p := ⟨b, o + j * 4 + 3, none⟩) hb).trans C3.out
        have c3' := (HW.out.cell (p := ⟨b', o' + j * 4 + 3, none⟩) hb').trans C3'.out
        by_cases hlm : m < fk
        · obtain ⟨fb, fo, f, rfl, hf1, hok, hfb, g0, g1, g2, g3, g4⟩ := (hf.out.below HW.out (Nat.le_refl _)).at m hlm
          obtain ⟨fb', fo', f', rfl, hf1', hok', hfb', g0', g1', g2', g3', g4'⟩ := (hf'.out.below HW.out (Nat.le_refl _)).at m hlm
          obtain rfl : f = f' := by
            have := hf1.out.symm.trans hf1'.out
            injection this
          have hmi : (m : Int) < (fk : Int) := by omega
          obtain ⟨kd, ln, ty, lk, ky⟩ := f
          simp only at g0 g1 g2 g3 g4 g0' g1' g2' g3' g4'
          clear hok hok' hf1 hf1'
          go_wp2_with fail
          go_quiet (fail)
          have HW1 := Lib.hid (below_drewN HW.out nq)
          go_wp2_with fail
          go_roundw
          case rel => exact ⟨m + 1, by omega, by go_num, HW1.out⟩
          case measure => simp [intOf]; omega
        · obtain rfl : m = fk := by omega
          go_wp2_with fail
          go_roundw
          case rel => exact ⟨j + 1, by omega, by go_num, HW.out⟩
          case measure => simp [intOf]; omega
    · obtain rfl : j = n := by omega
      go_wp2_with fail
      go_ret
      exact ⟨rfl, HW.out⟩
end
end Go.Proofs.Ytnkjlocjfljjlaa
