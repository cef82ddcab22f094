/- The contract of the statements' examples. No condition. -/
import Derived.Test.YtipffbhaibamnaaWTakeInts
namespace Go.Proofs.Ytipffbhaibamnaa
open Go.RowKit

theorem num300 : num 300 = [172, 2] := by rw [num_hi (by decide), num_lo (by decide)]
theorem exT : tE [128, 0] = 3 := by decide
theorem exX : txE (ofS ⟨#[97, 98]⟩) = 0 ∧ txV (ofS ⟨#[97, 98]⟩) = [2, 97, 98] := by
  have h : nm (ofS ⟨#[97, 98]⟩) = true := by decide
  unfold txE txV
  rw [if_pos h, if_pos h]
  have e : (ofS ⟨#[97, 98]⟩) = [97, 98] := by decide
  rw [e]
  exact ⟨rfl, by rw [num_lo (by decide)]; rfl⟩
theorem exI : isE [1, 200] = 0 ∧ isV [1, 200] = [2, 1, 200, 1] := by
  have h : isE [1, 200] = 0 := by decide
  refine ⟨h, ?_⟩
  unfold isV
  rw [if_pos h]
  have e : nats [1, 200] = [1, 200] := by decide
  rw [e, flat_cons, flat_cons, flat_nil, num_lo (show 1 < 128 by decide), num_hi (show 128 ≤ 200 by decide), num_lo (show 200 / 128 < 128 by decide), num_lo (show [(1 : Int), 200].length < 128 by decide)]
  rfl
theorem rd_two (w : World) : Rd (w.alloc (.cells #[.int .u8 128, .int .u8 0] 5)) (some ⟨w.heap.size, 0, none⟩) 2 2 [128, 0] := by
  refine ⟨fun i y hi => ?_, rfl, Nat.le_refl _, by decide, fun e => by cases e⟩
  match i, hi with
  | 0, hi => simp at hi; subst hi; exact ⟨_, _, rfl, by simp, by simp, by decide⟩
  | 1, hi => simp at hi; subst hi; exact ⟨_, _, rfl, by simp, by simp, by decide⟩
theorem li_two (w : World) : Li (w.alloc (.cells #[.int .i64 1, .int .i64 200] 3)) (some ⟨w.heap.size, 0, none⟩) 2 2 [1, 200] := by
  refine ⟨fun i y hi => ?_, fun x hx => ?_, rfl, Nat.le_refl _, by decide⟩
  · match i, hi with
    | 0, hi => simp at hi; subst hi; exact ⟨_, _, rfl, by simp, by simp⟩
    | 1, hi => simp at hi; subst hi; exact ⟨_, _, rfl, by simp, by simp⟩
  · simp at hx
    omega

section
variable {w : World}
set_option maxRecDepth 100000 in
theorem shown_any : Calls Try.prog 10 #[] w fun e w' => e = .returned (.bool true) ∧ Below w.heap.size w w' := by
  have A1 := Lib.hid (rd_two w)
  have E3 := Lib.hid exT
  have EX := Lib.hid exX
  have EI := Lib.hid exI
  have EN := Lib.hid num300
  have hb0 : Byt [2, 97, 98] := by intro x hx; simp at hx; omega
  have hb1 : Byt [2, 1, 200, 1] := by intro x hx; simp at hx; omega
  have hb2 : Byt [172, 2] := by intro x hx; simp at hx; omega
  have B0 := Lib.hid hb0
  have B1 := Lib.hid hb1
  have B2 := Lib.hid hb2
  clear hb0 hb1 hb2
  go_enter Try.func10, Try.ntmps10
  go_wp2_with (go_at_call 11; refine (take_any _ _ _ [128, 0] A1.out).mono ?_; rintro e w1 ⟨rfl, rfl⟩; rw [E3.out])
  go_wp2_with (go_at_call 15; refine (text_any ⟨#[97, 98]⟩ (by decide)).mono ?_; rintro e w2 ⟨v2, rfl, h1, h2⟩; rw [EX.out.1]; rw [EX.out.2] at h1; obtain ⟨A2, k2, c2, rfl, h3⟩ := h1.form B0.out; have R2 := Lib.hid h3; have W2 := Lib.hid (((Below.refl w.heap.size w).alloc (Nat.le_refl _) _).trans (h2.mono (by simp))); clear h1 h2 h3)
  go_wp2_with (go_at_call 19; refine (ints_any _ _ _ [1, 200] (li_two w2)).mono ?_; rintro e w3 ⟨v3, rfl, h1, h2⟩; rw [EI.out.1]; rw [EI.out.2] at h1; obtain ⟨A3, k3, c3, rfl, h3⟩ := h1.form B1.out; have R3 := Lib.hid h3; have h4 := ((Below.refl w2.heap.size w2).alloc (Nat.le_refl _) (.cells #[.int .i64 1, .int .i64 200] 3)).trans (h2.mono (by simp)); have R23 := Lib.hid (R2.out.below h4 (Nat.le_refl _)); have W3 := Lib.hid (W2.out.trans (h4.mono W2.out.size)); clear h1 h2 h3 h4)
  go_wp2_with (go_at_call 13; refine (number_any 300 (by decide)).mono ?_; rintro e w4 ⟨v4, rfl, h1, h2⟩; rw [EN.out] at h1; obtain ⟨A4, k4, c4, rfl, h3⟩ := h1.form B2.out; have s1 := run_str h3 (by have := h3.len; simp at this; omega); have h5 := R23.out.below h2 (Nat.le_refl _); have s2 := run_str h5 (by have := h5.len; simp at this; omega); have h6 := R3.out.below h2 (Nat.le_refl _); have s3 := run_str h6 (by have := h6.len; simp at this; omega); have W4 := Lib.hid (W3.out.trans (h2.mono W3.out.size)); clear h1 h2 h3 h5 h6; rw [show sb [172, 2] = ⟨#[172, 2]⟩ from rfl] at s1; rw [show sb [2, 97, 98] = ⟨#[2, 97, 98]⟩ from rfl] at s2; rw [show sb [2, 1, 200, 1] = ⟨#[2, 1, 200, 1]⟩ from rfl] at s3)
  go_ret
  exact ⟨rfl, W4.out⟩
end
end Go.Proofs.Ytipffbhaibamnaa
