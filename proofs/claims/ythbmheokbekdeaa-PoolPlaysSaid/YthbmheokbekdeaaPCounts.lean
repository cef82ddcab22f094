/- The walk of PoolCounts: it returns true, and nothing that was there has turned. Condition: the deeds' cells are known. -/
import Derived.Test.YthbmheokbekdeaaPSeq
namespace Go.Proofs.Ythbmheokbekdeaa
open Go.RowKit

/-- The deeds that are read. -/
def Deeds (w : World) (A : Option Addr) (len : Nat) : Prop := ∀ i, i < len → ∃ (b o : Nat) (kd n : Int), A = some ⟨b, o, none⟩ ∧ b < w.heap.size ∧
  w.cell? ⟨b, o + i * 2, none⟩ = some (.int .i64 kd) ∧ w.cell? ⟨b, o + i * 2 + 1, none⟩ = some (.int .i64 n) ∧ (Lit.int .i64 n).wf = true

theorem cnt_step (t : Nat → Bool) (j : Nat) : cnt t (j + 1 - 1) = cnt t (j - 1) + if tkB t ((j : Int) - 1) then 1 else 0 := by
  cases j with
  | zero => rfl
  | succ j =>
    have e : tkB t (((j + 1 : Nat) : Int) - 1) = t j := by
      rw [show ((j + 1 : Nat) : Int) - 1 = (j : Int) by omega]
      simp [tkB]
    rw [e]
    rfl

set_option maxRecDepth 100000 in
set_option maxHeartbeats 1000000 in
theorem counts_some (pages : Int) (A : Option Addr) (len cap : Nat) (w : World) (h0 : (Lit.int .u8 pages).wf = true) (_hlen : len ≤ 9223372036854775807) (hD : Deeds w A len) :
    Calls Try.prog 8 #[.int .u8 pages, .slice A len cap] w fun e w' => e = .returned (.bool true) ∧ Below w.heap.size w w' := by
  have b0 := bounds_u8 h0
  clear h0
  have HD := Lib.hid hD
  clear hD
  obtain ⟨n, hn⟩ := Int.eq_ofNat_of_zero_le (show 0 ≤ pages % 129 by omega)
  have hn128 : n ≤ 128 := by omega
  go_enter Try.func8, Try.ntmps8
  go_wp2_with fail
  refine shown_any.mono ?_
  rintro e w1 ⟨rfl, hb⟩
  have HB := Lib.hid hb
  clear hb
  go_wp2_with fail
  refine (new_ok n hn128).mono ?_
  rintro e w2 ⟨rfl, hp, hz, hb⟩
  have HP := Lib.hid hp
  have HB2 := Lib.hid (HB.out.trans (hb.mono HB.out.size))
  have hp0 : w.heap.size ≤ w1.heap.size := HB.out.size
  generalize w1.heap.size = p at *
  clear hp hz hb
  go_wp2_with fail
  go_loopg [9] len (fun g s wr => ∃ (k : Nat) (t : Nat → Bool), k + g = len ∧ s = .int .i64 k ∧ Hid (Pl wr p n t) ∧ Hid (Below w.heap.size w wr))
  case atStart => exact ⟨0, _, by omega, rfl, HP.out, HB2.out⟩
  case round =>
    obtain ⟨k, t, hkg, rfl, HI, HW⟩ := hrel
    by_cases hin : k < len ∧ k < 200
    · obtain ⟨hlt, h200⟩ := hin
      obtain ⟨b, o, kd, m, rfl, hblt, c0, c1, f1⟩ := HD.out k hlt
      have d0 := (HW.out.cell (p := ⟨b, o + k * 2, none⟩) hblt).trans c0
      have d1 := (HW.out.cell (p := ⟨b, o + k * 2 + 1, none⟩) hblt).trans c1
      have b1 := bounds_i64 f1
      clear c0 c1 f1
      obtain ⟨g, rfl⟩ : ∃ g, gk = g + 1 := ⟨gk - 1, by omega⟩
      by_cases k0 : kd = 0
      · subst k0
        go_wp2_with fail
        refine (take_any _ _ _ HI.out).mono ?_
        rintro e w3 ⟨rfl, hp, ho⟩
        have P3 := Lib.hid hp
        have B3 := Lib.hid (HW.out.trans (ho.below hp0))
        clear hp ho d0 d1
        go_wp2
        go_roundg g
        case measure => omega
        case rel => exact ⟨k + 1, _, by omega, by go_num, P3.out, B3.out⟩
      by_cases k1 : kd = 1
      · subst k1
        clear k0
        go_wp2_with fail
        refine (takeRun_any _ _ _ _ HI.out b1.2).mono ?_
        rintro e w3 ⟨rfl, hp, ho⟩
        have P3 := Lib.hid hp
        have B3 := Lib.hid (HW.out.trans (ho.below hp0))
        clear hp ho d0 d1
        go_wp2
        go_roundg g
        case measure => omega
        case rel => exact ⟨k + 1, _, by omega, by go_num, P3.out, B3.out⟩
      go_wp2_with fail
      refine (give_any _ _ _ _ HI.out).mono ?_
      rintro e w3 ⟨rfl, hp, ho⟩
      have P3 := Lib.hid hp
      have B3 := Lib.hid (HW.out.trans (ho.below hp0))
      clear hp ho d0 d1
      go_wp2
      go_roundg g
      case measure => omega
      case rel => exact ⟨k + 1, _, by omega, by go_num, P3.out, B3.out⟩
    · have hs : (decide (k < len) = false) ∨ (k < len ∧ decide ((k : Int) < 200) = false) := by
        by_cases h1 : k < len
        · right; exact ⟨h1, by simp; omega⟩
        · left; simpa using h1
      clear hin
      have ho := cnt_off HI.out.off 1
      have hc := cnt_le t n
      have HC := Lib.hid ho
      clear ho
      rcases hs with hs | ⟨hlt, hs⟩
      all_goals
        go_wp2_with fail
        go_loopg [10, 11] (n + 2) (fun g s10 s11 wr2 => ∃ j m : Nat, j + g = n + 2 ∧ s10 = .int .i64 (cnt t (j - 1) : Nat) ∧ s11 = .int .i64 ((j : Int) - 1) ∧ wr2 = wr.drewN m)
        case atStart => exact ⟨0, 0, by omega, rfl, rfl, rfl⟩
        case round =>
          obtain ⟨j, m, hjg, rfl, rfl, rfl⟩ := hrel
          have hcj := cnt_le t (j - 1)
          cases gk with
          | succ g =>
            have hle : decide ((j : Int) - 1 ≤ (n : Int)) = true := by simp; omega
            have HS := Lib.hid (cnt_step t j)
            have HK := Lib.hid (taken_any (w := wr.drewN m) (some ⟨p, 0, none⟩) n t ((j : Int) - 1) (HI.out.po.drew m))
            cases hv : tkB t ((j : Int) - 1) with
            | true =>
              have HV := Lib.hid hv
              clear hv
              go_wp2_with fail
              refine HK.out.mono ?_
              rw [HV.out]
              rintro e w' ⟨rfl, m2, rfl⟩
              go_wp2
              go_roundg g
              case measure => omega
              case rel => exact ⟨j + 1, _, by omega, by rw [HS.out, HV.out]; go_num, by go_num, rfl⟩
            | false =>
              have HV := Lib.hid hv
              clear hv
              go_wp2_with fail
              refine HK.out.mono ?_
              rw [HV.out]
              rintro e w' ⟨rfl, m2, rfl⟩
              go_wp2
              go_roundg g
              case measure => omega
              case rel => exact ⟨j + 1, _, by omega, by rw [HS.out, HV.out]; rfl, by go_num, rfl⟩
          | zero =>
            have hle : decide ((j : Int) - 1 ≤ (n : Int)) = false := by simp; omega
            have hcn : ((cnt t (j - 1) : Nat) : Int) + (free n t : Nat) = (n : Int) := by
              rw [show j - 1 = n + 1 by omega, HC.out]
              unfold free
              omega
            go_wp2_with fail
            refine (free_any _ _ _ (HI.out.po.drew m)).mono ?_
            rintro e w' ⟨rfl, rfl⟩
            go_wp2_with fail
            refine (len_any _ _ _ (HI.out.po.drew m)).mono ?_
            rintro e w' ⟨rfl, rfl⟩
            go_wp2
            go_ret
            exact ⟨rfl, below_drewN HW.out m⟩
end Go.Proofs.Ythbmheokbekdeaa
