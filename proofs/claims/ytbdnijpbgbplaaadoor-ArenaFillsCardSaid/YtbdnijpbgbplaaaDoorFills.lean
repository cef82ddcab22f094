/- The walk of ArenaFills: it returns true, and nothing that was there has turned. Condition: the table of widths lies in its block. -/
import Derived.Test.YtbdnijpbgbplaaaDoorAny
import Derived.OpenShut
namespace Go.Proofs.YtbdnijpbgbplaaaDoor
open Go.RowKit

theorem flF_in {n : Nat} {at_ k c : Int} (h : fits n at_ k = 0) (i : Nat) (h1 : at_ ≤ i) (h2 : (i : Int) - at_ < k) : flF n (fun _ => 0) at_ k c i = c := by
  have := fits_ok h
  unfold flF fl
  rw [if_pos h, if_pos (by omega)]
theorem flF_out {n : Nat} {at_ k c : Int} (i : Nat) (h1 : fits n at_ k ≠ 0 ∨ (i : Int) < at_ ∨ k ≤ (i : Int) - at_) : flF n (fun _ => 0) at_ k c i = 0 := by
  unfold flF fl
  by_cases h : fits n at_ k = 0
  · have := fits_ok h
    rw [if_pos h, if_neg (by omega)]
  · rw [if_neg h]
theorem flF_ld {n : Nat} {at_ k c : Int} (h : fits n at_ k = 0) (hk : 2 ≤ k) : accE n at_ 2 = 0 ∧ ldV n (flF n (fun _ => 0) at_ k c) at_ 2 = c * 257 := by
  obtain ⟨a, b, d⟩ := fits_ok h
  have e : accE n at_ 2 = 0 := accE_mk rfl b (by omega)
  refine ⟨e, ?_⟩
  unfold ldV
  rw [if_pos e]
  obtain ⟨p, rfl⟩ := Int.eq_ofNat_of_zero_le b
  show 0 + flF n (fun _ => 0) p k c (p + 0) * 256 ^ 0 + flF n (fun _ => 0) p k c (p + 1) * 256 ^ 1 = _
  rw [flF_in h (p + 0) (by omega) (by omega), flF_in h (p + 1) (by omega) (by omega)]
  omega

set_option maxHeartbeats 400000 in
set_option maxRecDepth 100000 in
theorem fills_walk (n at_ many c : Int) (w : World) (h0 : (Lit.int .u16 n).wf = true) (h1 : (Lit.int .i64 at_).wf = true) (h2 : (Lit.int .i64 many).wf = true) (h3 : (Lit.int .u8 c).wf = true)
    (hT : Tab w) (hB : 0 < w.heap.size) :
    Calls Tryd.prog 8 #[.int .u16 n, .int .i64 at_, .int .i64 many, .int .u8 c] w fun e w' => e = .returned (.bool true) ∧ Below w.heap.size w w' := by
  have b0 := bounds_u16 h0
  have b1 := bounds_i64 h1
  have b2 := bounds_i64 h2
  have b3 := bounds_u8 h3
  clear h0 h1 h2 h3
  obtain ⟨N, rfl⟩ := Int.eq_ofNat_of_zero_le b0.1
  have hN : N ≤ 65535 := by omega
  clear b0
  have HT := Lib.hid hT
  clear hT
  go_enter Tryd.func8, Tryd.ntmps8
  go_wp2_with fail
  refine (shown_any HT.out hB).mono ?_
  rintro e w1 ⟨rfl, hb⟩
  have HB1 := Lib.hid hb
  clear hb
  go_wp2_with fail
  refine (new_ok N (by omega)).mono ?_
  rintro e w2 ⟨rfl, hA, hz, hb⟩
  have HA := Lib.hid hA
  have HB2 := Lib.hid (HB1.out.trans (hb.mono HB1.out.size))
  clear hA hz hb
  go_wp2_with fail
  refine (fill_any _ _ _ _ _ _ _ HA.out b2.2 b3).mono ?_
  rintro e w3 ⟨rfl, hA, ho⟩
  have HA3 := Lib.hid hA
  have HB3 := Lib.hid (HB2.out.trans (ho.below HB1.out.size))
  clear hA ho
  go_wp2_with fail
  refine (bytes_all _ _ _ _ HA3.out).mono ?_
  rintro e w4 ⟨rfl, hk, hb⟩
  have HK := Lib.hid hk
  have HA4 := Lib.hid (HA3.out.below hb HA3.out.head.lt HA3.out.body.lt)
  have HB4 := Lib.hid (HB3.out.trans (hb.mono HB3.out.size))
  have T4 := Lib.hid (HT.out.below HB4.out hB)
  clear hk hb HA HA3 HB1 HB2 HB3
  by_cases e1 : fits N at_ many = 0
  · rw [e1]
    obtain ⟨f1, f2, f3⟩ := fits_ok e1
    have E1 := Lib.hid e1
    clear e1
    go_wp2_with fail
    go_loop [15] (fun i => ∃ k : Nat, k ≤ N ∧ i = .int .i64 k) (fun i => N - (intOf i).toNat)
    case atStart => exact ⟨0, Nat.zero_le _, rfl⟩
    case round =>
      obtain ⟨k, hk, rfl⟩ := hrel
      by_cases hlt : k < N
      · have hc := (HK.out.cell k).trans (row_at _ _ k hlt)
        by_cases c1 : at_ ≤ k
        · by_cases c2 : (k : Int) - at_ < many
          · rw [flF_in E1.out k c1 c2] at hc
            go_wp2
            go_round
            case rel => exact ⟨k + 1, by omega, by go_num⟩
            case measure => simp [intOf]; omega
          · rw [flF_out k (.inr (.inr (by omega)))] at hc
            go_wp2
            go_round
            case rel => exact ⟨k + 1, by omega, by go_num⟩
            case measure => simp [intOf]; omega
        · rw [flF_out k (.inr (.inl (by omega)))] at hc
          go_wp2
          go_round
          case rel => exact ⟨k + 1, by omega, by go_num⟩
          case measure => simp [intOf]; omega
      · go_wp2_with fail
        refine (load_any _ _ _ _ _ _ T4.out HA4.out).mono ?_
        rintro e w' ⟨rfl, rfl⟩
        by_cases h2 : 2 ≤ many
        · obtain ⟨g1, g2⟩ := flF_ld (c := c) E1.out h2
          rw [g1, g2]
          clear g1 g2
          go_wp2
          go_ret
          exact ⟨rfl, HB4.out⟩
        · have h2' : many < 2 := by omega
          go_wp2
          go_ret
          exact ⟨rfl, HB4.out⟩
  · have hq' : (fits N at_ many != 0) = true := by simpa using e1
    have hq : (fits N at_ many == 0) = false := by simpa using e1
    have E1 := Lib.hid e1
    clear e1
    go_wp2_with fail
    go_loop [15] (fun i => ∃ k : Nat, k ≤ N ∧ i = .int .i64 k) (fun i => N - (intOf i).toNat)
    case atStart => exact ⟨0, Nat.zero_le _, rfl⟩
    case round =>
      obtain ⟨k, hk, rfl⟩ := hrel
      by_cases hlt : k < N
      · have hc := (HK.out.cell k).trans (row_at _ _ k hlt)
        rw [flF_out k (.inl E1.out)] at hc
        go_wp2
        go_round
        case rel => exact ⟨k + 1, by omega, by go_num⟩
        case measure => simp [intOf]; omega
      · go_wp2_with fail
        refine (load_any _ _ _ _ _ _ T4.out HA4.out).mono ?_
        rintro e w' ⟨rfl, rfl⟩
        go_wp2
        go_ret
        exact ⟨rfl, HB4.out⟩
end Go.Proofs.YtbdnijpbgbplaaaDoor
