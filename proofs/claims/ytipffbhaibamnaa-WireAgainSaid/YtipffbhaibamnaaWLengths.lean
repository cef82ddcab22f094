/- WireLengths: the walk. No condition. -/
import Derived.Test.YtipffbhaibamnaaWLaw
namespace Go.Proofs.Ytipffbhaibamnaa
open Go.RowKit
theorem nat_of {a : Int} (h : (Lit.int .u64 a).wf = true) : ∃ n : Nat, a = n ∧ n < 18446744073709551616 := by
  have := bounds_u64 h
  exact ⟨a.toNat, by omega, by omega⟩
theorem str_ne {x y : ByteArray} (h : x ≠ y) : (x.toList == y.toList) = false := by
  rw [beq_eq_false_iff_ne, ByteArray.toList_eq, ByteArray.toList_eq]
  intro e
  apply h
  obtain ⟨⟨_⟩⟩ := x
  obtain ⟨⟨_⟩⟩ := y
  simp at e
  rw [e]
set_option maxRecDepth 100000 in
theorem lengths_walk (a0 b0 : Int) (w : World) (h0 : (Lit.int .u64 a0).wf = true) (h1 : (Lit.int .u64 b0).wf = true) :
    Calls Try.prog 9 #[.int .u64 a0, .int .u64 b0] w fun e w' => e = .returned (.bool true) ∧ Below w.heap.size w w' := by
  obtain ⟨a, rfl, ha⟩ := nat_of h0
  obtain ⟨b, rfl, hb⟩ := nat_of h1
  have TA := Lib.hid (num_ten ha)
  have TB := Lib.hid (num_ten hb)
  have PA := Lib.hid (num_pos a)
  have PB := Lib.hid (num_pos b)
  have MO := Lib.hid (num_mono a b)
  clear h0 h1
  go_enter Try.func9, Try.ntmps9
  go_wp2_with (go_at_call 10; refine (shown_any).mono ?_; rintro e w1 ⟨rfl, h1⟩; have W1 := Lib.hid h1; clear h1)
  go_wp2_with (go_at_call 13; refine (number_any a ha).mono ?_; rintro e w2 ⟨v2, rfl, h1, h2⟩; obtain ⟨A2, k2, c2, rfl, h3⟩ := h1.form (num_byt _); have R2 := Lib.hid h3; have W2 := Lib.hid (W1.out.trans (h2.mono W1.out.size)); clear h1 h2 h3)
  go_wp2_with (go_at_call 13; refine (number_any b hb).mono ?_; rintro e w3 ⟨v3, rfl, h1, h2⟩; obtain ⟨A3, k3, c3, rfl, h3⟩ := h1.form (num_byt _); have R3 := Lib.hid h3; have R23 := Lib.hid (R2.out.below h2 (Nat.le_refl _)); have W3 := Lib.hid (W2.out.trans (h2.mono W2.out.size)); have L2 := Lib.hid R2.out.len; have L3 := Lib.hid h3.len; have s2 := run_strA R23.out; have s3 := run_strA h3; have S2 := Lib.hid s2; have S3 := Lib.hid s3; have p1 : 1 ≤ k2 := by { rw [← L2.out]; exact PA.out }; have p2 : k2 ≤ 10 := by { rw [← L2.out]; exact TA.out }; have p3 : 1 ≤ k3 := by { rw [← L3.out]; exact PB.out }; have p4 : k3 ≤ 10 := by { rw [← L3.out]; exact TB.out }; have P5 := Lib.hid (show a ≤ b → k2 ≤ k3 by { rw [← L2.out, ← L3.out]; exact MO.out }); clear h1 h2 h3 s2 s3; by_cases hab : a ≤ b; (have hk := P5.out hab))
  all_goals
    go_wp2_with fail
    go_loop [8] (fun i => ∃ j : Nat, j ≤ k2 ∧ i = .int .i64 j) (fun i => k2 - (intOf i).toNat)
    case atStart => exact ⟨0, Nat.zero_le _, rfl⟩
    case round =>
      obtain ⟨j, hj, rfl⟩ := hrel
      by_cases hlt : j < k2
      · obtain ⟨bb, oo, c, rfl, hc, HC, hcell⟩ := R23.out.byteAt j hlt
        by_cases hl : j + 1 < k2
        · have hc1 : 128 ≤ c := by rw [← HC.out]; exact num_high (by rw [L2.out]; exact hl)
          have hl2 : decide ((j : Int) < (k2 : Int) - 1) = true := by simp; omega
          have hc2 : decide ((128 : Int) ≤ (c : Int)) = true := by simp; omega
          go_wp2_with fail
          go_round
          case rel => exact ⟨j + 1, by omega, by go_num⟩
          case measure => simp [intOf]; omega
        · have hc1 : c < 128 := by
            rw [← HC.out, show j = (num a).length - 1 by rw [L2.out]; omega]
            exact num_end
          have hl2 : decide ((j : Int) < (k2 : Int) - 1) = false := by simp; omega
          have hc2 : decide ((128 : Int) ≤ (c : Int)) = false := by simp; omega
          go_wp2_with fail
          go_round
          case rel => exact ⟨j + 1, by omega, by go_num⟩
          case measure => simp [intOf]; omega
      · obtain rfl : j = k2 := by omega
        have s2 := S2.out
        have s3 := S3.out
        by_cases hab : a = b
        · subst hab
          go_wp2_with fail
          go_ret
          exact ⟨rfl, W3.out⟩
        · have q1 : ((a : Int) == (b : Int)) = false := by simp; omega
          have hne : sb (num a) ≠ sb (num b) := fun h => hab (num_inj (sb_inj (num_byt _) (num_byt _) h))
          have q2 := str_ne hne
          go_wp2_with fail
          go_ret
          exact ⟨rfl, W3.out⟩
end Go.Proofs.Ytipffbhaibamnaa
