/- The walk of PoolOnce: it returns true, and nothing that was there has turned. No condition. -/
import Derived.Test.YthbmheokbekdeaaPSeq
namespace Go.Proofs.Ythbmheokbekdeaa
open Go.RowKit

set_option maxRecDepth 100000 in
set_option maxHeartbeats 1000000 in
theorem once_walk (pages page : Int) (w : World) (h0 : (Lit.int .u8 pages).wf = true) (h1 : (Lit.int .i64 page).wf = true) :
    Calls Try.prog 4 #[.int .u8 pages, .int .i64 page] w fun e w' => e = .returned (.bool true) ∧ Below w.heap.size w w' := by
  have b0 := bounds_u8 h0
  have b1 := bounds_i64 h1
  clear h0 h1
  obtain ⟨n, hn⟩ := Int.eq_ofNat_of_zero_le (show 0 ≤ pages % 129 by omega)
  have hn128 : n ≤ 128 := by omega
  go_enter Try.func4, Try.ntmps4
  go_wp2_with fail
  refine shown_any.mono ?_
  rintro e w1 ⟨rfl, hb⟩
  have HB := Lib.hid hb
  clear hb
  go_wp2_with fail
  refine (new_ok n hn128).mono ?_
  rintro e w2 ⟨rfl, hp, hz, hb⟩
  have HP := Lib.hid (hp.congr ini_zero.symm)
  have HB2 := Lib.hid (HB.out.trans (hb.mono HB.out.size))
  have hp0 : w.heap.size ≤ w1.heap.size := HB.out.size
  generalize w1.heap.size = p at *
  clear hp hz hb
  go_wp2_with fail
  go_loopg [9, 10] n (fun g s9 s10 wr => ∃ i : Nat, i + g = n ∧ s9 = .int .i64 ((i : Int) - 1) ∧ s10 = .int .i64 i ∧ Hid (Pl wr p n (ini i)) ∧ Hid (Below w.heap.size w wr))
  case atStart => exact ⟨0, by omega, rfl, rfl, HP.out, HB2.out⟩
  case round =>
    obtain ⟨i, hig, rfl, rfl, HI, HW⟩ := hrel
    cases gk with
    | succ g =>
      have hlt : (i : Int) < (n : Int) := by omega
      go_wp2_with fail
      refine (take_ini _ _ _ HI.out (by omega)).mono ?_
      rintro e w3 ⟨rfl, hp, ho⟩
      have P3 := Lib.hid hp
      have B3 := Lib.hid (HW.out.trans (ho.below hp0))
      clear hp ho
      have t1 : decide ((i : Int) ≤ (i : Int) - 1) = false := by simp; omega
      have t2 : decide ((n : Int) ≤ (i : Int)) = false := by simp; omega
      have t3 := Lib.hid (show ini (i + 1) i = true by simp [ini])
      have e4 := Lib.hid (show ((n - (i + 1) : Nat) : Int) = (n : Int) - (i : Int) - 1 by omega)
      go_wp2_with fail
      refine (taken_at _ _ _ _ true P3.out.po t3.out).mono ?_
      rintro e w' ⟨rfl, m, rfl⟩
      go_wp2_with fail
      refine (free_ini_any _ _ _ (P3.out.drew m) (by omega)).mono ?_
      rintro e w' ⟨rfl, rfl⟩
      rw [e4.out]
      go_wp2
      go_roundg g
      case measure => omega
      case rel => exact ⟨i + 1, by omega, by go_num, by go_num, P3.out.drew m, below_drewN B3.out m⟩
    | zero =>
      obtain rfl : n = i := by omega
      have hlt : ¬ ((n : Int) < (n : Int)) := by omega
      go_wp2_with fail
      refine (take_out _ _ HI.out).mono ?_
      rintro e w3 ⟨rfl, hp, ho⟩
      have P3 := Lib.hid hp
      have B3 := Lib.hid (HW.out.trans (ho.below hp0))
      clear hp ho
      go_wp2_with fail
      refine (takeRun_out _ _ P3.out).mono ?_
      rintro e w4 ⟨rfl, hp, ho⟩
      have P4 := Lib.hid hp
      have B4 := Lib.hid (B3.out.trans (ho.below hp0))
      clear hp ho
      by_cases hpg : page < 0
      · go_wp2_with fail
        refine (give_arg _ _ _ _ P4.out.po (by omega)).mono ?_
        rintro e w' ⟨rfl, rfl⟩
        go_wp2
        go_ret
        exact ⟨rfl, B4.out⟩
      · by_cases hpn : (n : Int) ≤ page
        · go_wp2_with fail
          refine (give_arg _ _ _ _ P4.out.po (by omega)).mono ?_
          rintro e w' ⟨rfl, rfl⟩
          go_wp2
          go_ret
          exact ⟨rfl, B4.out⟩
        · obtain ⟨k, rfl⟩ := Int.eq_ofNat_of_zero_le (show 0 ≤ page by omega)
          have hkn : k < n := by omega
          have d1 : decide ((k : Int) < 0) = false := by simp
          have d2 : decide (n ≤ k) = false := by simp; omega
          clear hpg hpn
          go_wp2_with fail
          refine (give_ok _ _ _ k P4.out hkn (by simp [ini, hkn])).mono ?_
          rintro e w5 ⟨rfl, hp, ho⟩
          have P5 := Lib.hid hp
          have B5 := Lib.hid (B4.out.trans (ho.below hp0))
          clear hp ho
          go_wp2_with fail
          refine (give_none _ _ _ k P5.out hkn (by simp [upd])).mono ?_
          rintro e w6 ⟨rfl, hp, ho⟩
          have P6 := Lib.hid hp
          have B6 := Lib.hid (B5.out.trans (ho.below hp0))
          clear hp ho
          go_wp2_with fail
          refine (takeRun_hole _ _ k P6.out hkn).mono ?_
          rintro e w7 ⟨rfl, hp, ho⟩
          have P7 := Lib.hid hp
          have B7 := Lib.hid (B6.out.trans (ho.below hp0))
          clear hp ho
          have e0 := Lib.hid (show ((n - n : Nat) : Int) = 0 by omega)
          go_wp2_with fail
          refine (free_ini_any _ _ n P7.out (Nat.le_refl _)).mono ?_
          rintro e w' ⟨rfl, rfl⟩
          rw [e0.out]
          go_wp2
          go_ret
          exact ⟨rfl, B7.out⟩
end Go.Proofs.Ythbmheokbekdeaa
