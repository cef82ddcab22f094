/- The walk of PoolRuns: it returns true, and nothing that was there has turned. Condition: the given pages' cells are known. -/
import Derived.Test.YthbmheokbekdeaaPLowest
import Derived.Test.YthbmheokbekdeaaOwn
namespace Go.Proofs.Ythbmheokbekdeaa
open Go.RowKit

theorem infoB : (Try.prog.info? 4).map (fun i => (i.zero, i.size, i.bytes)) = some (some (.bool false), 1, 1) := by kernel_rfl
/-- Bools as values. -/
def bv (t : Nat → Bool) : Nat → Value := fun i => .bool (t i)
/-- What the taking of a run leaves of a page. -/
theorem trT_ok {n : Nat} {t : Nat → Bool} {m : Int} {k a : Nat} (hm : m = k) (hk : 1 ≤ k) (hl : low n t k = some a) : trT n t m = setR t a k true ∧ trV n t m = a ∧ trE n t m = 0 := by
  subst hm
  unfold trT trV trE
  rw [if_neg (by omega), if_neg (by omega), if_neg (by omega), Int.toNat_natCast, hl]
  exact ⟨rfl, rfl, rfl⟩
theorem trT_full {n : Nat} {t : Nat → Bool} {m : Int} {k : Nat} (hm : m = k) (hk : 1 ≤ k) (hl : low n t k = none) : trT n t m = t ∧ trV n t m = 0 ∧ trE n t m = 5 := by
  subst hm
  unfold trT trV trE
  rw [if_neg (by omega), if_neg (by omega), if_neg (by omega), Int.toNat_natCast, hl]
  exact ⟨rfl, rfl, rfl⟩
theorem trT_arg {n : Nat} {t : Nat → Bool} {m : Int} (hm : m < 1) : trT n t m = t ∧ trV n t m = 0 ∧ trE n t m = 1 := by
  unfold trT trV trE
  rw [if_pos hm, if_pos hm, if_pos hm]
  exact ⟨rfl, rfl, rfl⟩

set_option maxRecDepth 100000 in
set_option maxHeartbeats 2000000 in
theorem runs_some (pages : Int) (A : Option Addr) (len cap : Nat) (m : Int) (w : World) (h0 : (Lit.int .u8 pages).wf = true) (h1 : (Lit.int .i64 m).wf = true) (_hlen : len ≤ 9223372036854775807) (hD : Given w A len) :
    Calls Try.prog 5 #[.int .u8 pages, .slice A len cap, .int .i64 m] w fun e w' => e = .returned (.bool true) ∧ Below w.heap.size w w' := by
  have b0 := bounds_u8 h0
  have bm := bounds_i64 h1
  clear h0 h1
  have HD := Lib.hid hD
  clear hD
  obtain ⟨i0, hi, hz0, hz1, hz2⟩ := info_parts infoB
  have HX := Lib.hid hi
  have HZ0 := Lib.hid hz0
  have HZ1 := Lib.hid hz1
  have HZ2 := Lib.hid hz2
  clear hi hz0 hz1 hz2
  obtain ⟨n, hn⟩ := Int.eq_ofNat_of_zero_le (show 0 ≤ pages % 129 by omega)
  have hn128 : n ≤ 128 := by omega
  go_enter Try.func5, Try.ntmps5
  go_wp2_with fail
  refine shown_any.mono ?_
  rintro e w1 ⟨rfl, hb⟩
  have HB := Lib.hid hb
  clear hb
  go_wp2_with fail
  refine (new_ok n hn128).mono ?_
  rintro e w2 ⟨rfl, hp, hz, hb⟩
  have HP := Lib.hid (hp.congr ini_zero.symm)
  have HB2 := Lib.hid (HB.out.trans (hb.mono HB.out.size))
  have hp0 : w.heap.size ≤ w1.heap.size := HB.out.size
  generalize w1.heap.size = p at *
  clear hp hz hb
  go_wp2_with fail
  go_loopg [11] n (fun g s wr => ∃ i : Nat, i + g = n ∧ s = .int .i64 i ∧ Hid (Pl wr p n (ini i)) ∧ Hid (Below w.heap.size w wr))
  case atStart => exact ⟨0, by omega, rfl, HP.out, HB2.out⟩
  case round =>
    obtain ⟨i, hig, rfl, HI, HW⟩ := hrel
    cases gk with
    | succ g =>
      have hlt : (i : Int) < (n : Int) := by omega
      go_wp2_with fail
      refine (take_ini _ _ _ HI.out (by omega)).mono ?_
      rintro e w4 ⟨rfl, hp, ho⟩
      have P4 := Lib.hid hp
      have B4 := Lib.hid (HW.out.trans (ho.below hp0))
      clear hp ho
      go_wp2
      go_roundg g
      case measure => omega
      case rel => exact ⟨i + 1, by omega, by go_num, P4.out, B4.out⟩
    | zero =>
      obtain rfl : n = i := by omega
      have hlt : ¬ ((n : Int) < (n : Int)) := by omega
      go_wp2_with fail
      go_loopg [12] len (fun g s wr => ∃ (k : Nat) (t : Nat → Bool), k + g = len ∧ s = .int .i64 k ∧ Hid (Pl wr p n t) ∧ Hid (Below w.heap.size w wr))
      case atStart => exact ⟨0, _, by omega, rfl, HI.out, HW.out⟩
      case round =>
        clear HI HW
        obtain ⟨k, t, hkg, rfl, HI, HW⟩ := hrel
        by_cases hin : k < len ∧ k < 200
        · obtain ⟨hlt, h100⟩ := hin
          obtain ⟨b, o, v, rfl, hblt, c0, f1⟩ := HD.out k hlt
          have d0 := (HW.out.cell (p := ⟨b, o + k, none⟩) hblt).trans c0
          have b1 := bounds_u8 f1
          clear c0 f1
          obtain ⟨g, rfl⟩ : ∃ g, gk = g + 1 := ⟨gk - 1, by omega⟩
          go_wp2_with fail
          refine (give_any _ _ _ _ HI.out).mono ?_
          rintro e w4 ⟨rfl, hp, ho⟩
          have P4 := Lib.hid hp
          have B4 := Lib.hid (HW.out.trans (ho.below hp0))
          clear hp ho d0
          go_wp2
          go_roundg g
          case measure => omega
          case rel => exact ⟨k + 1, _, by omega, by go_num, P4.out, B4.out⟩
        · have hs : (decide (k < len) = false) ∨ (k < len ∧ decide ((k : Int) < 200) = false) := by
            by_cases h1 : k < len
            · right; exact ⟨h1, by simp; omega⟩
            · left; simpa using h1
          clear hin hkg
          rcases hs with hs | ⟨hlt2, hs⟩
          all_goals
            go_wp2_with fail
            go_loopg [13, 14] n (fun g s13 s wr => ∃ i : Nat, i + g = n ∧ s = .int .i64 i ∧ Hid (wr.ownsRow (p + 1) 4 1 s13 i (vals i (bv t))) ∧ Hid (Pl wr p n t) ∧ Hid (Below w.heap.size w wr))
            case atStart => exact ⟨0, by omega, rfl, World.ownsRow_nil _ _ _ _, HI.out, HW.out⟩
            case round =>
              clear HI HW
              obtain ⟨i, hig, rfl, HR, HI, HW⟩ := hrel
              have hW := HW.out.size
              have hpw := HI.out.blk.lt
              cases gk with
              | succ g =>
                have hlt3 : (i : Int) < (n : Int) := by omega
                go_wp2_with fail
                refine (taken_at _ _ _ _ (t i) HI.out.po rfl).mono ?_
                rintro e w' ⟨rfl, m2, rfl⟩
                have R2 : Hid (((wr.drewN m2).alloc (.cells #[.bool (t i)] 4)).ownsRow (p + 1) 4 1 u13 i (vals i (bv t))) := World.ownsRow.alloc (show (wr.drewN m2).ownsRow (p + 1) 4 1 u13 i (vals i (bv t)) from HR.out) _
                go_wp2_with (at_builtin; refine wpList_append_own _ rfl (.tmp 63) (.tmp 67) 28 rfl (p + 1) 4 i0 (.bool false) 1 1 Try.underlying28 HX.out HZ0.out HZ1.out HZ2.out rfl (by decide) _ i (vals i (bv t)) rfl R2.out ⟨wr.heap.size, 0, none⟩ 1 1 [.bool (t i)] rfl rfl (one_news (wr.drewN m2) _ _) (by simp [Value.oneCell']) (by unfold maxLen; omega) (by omega) (by simp; omega) ?_)
                intro v' w5 hown hgrow _
                have R5 : Hid (w5.ownsRow (p + 1) 4 1 v' (i + 1) (vals (i + 1) (bv t))) := by
                  rw [← vals_snoc]
                  exact hown
                have hne : some p ≠ u13.ownBlock := fun h => by have := (R2.out.lt p h.symm).1; omega
                have P5 : Hid (Pl w5 p n t) := ⟨(hgrow.block p (by simp; omega) hne).trans ((HI.out.drew m2).blk.alloc _), HI.out.small, HI.out.off⟩
                have B5 : Hid (Below w.heap.size w w5) := ((below_drewN HW.out m2).alloc (by simpa using hW) _).grown hgrow (by simp; omega) (fun q hq => by have := (R2.out.lt q hq).1; omega)
                clear hown hgrow R2
                go_wp2
                go_roundg g
                case measure => omega
                case rel => exact ⟨i + 1, by omega, by go_num, R5.out, P5.out, B5.out⟩
              | zero =>
                obtain rfl : n = i := by omega
                have hlt3 : ¬ ((n : Int) < (n : Int)) := by omega
                by_cases hm1 : m < 1
                · go_wp2_with fail
                  refine (takeRun_arg _ _ hm1).mono ?_
                  rintro e w6 ⟨rfl, rfl⟩
                  have PT := Lib.hid HI.out
                  have B6 := Lib.hid HW.out
                  have RR := Lib.hid HR.out
                  clear HI HW HR
                  go_wp2_with fail
                  generalize wr = w6 at *
                  go_loopg [17] n (fun g s wr2 => ∃ i2 : Nat, i2 + g = n ∧ s = .int .i64 i2 ∧ Hid (Pl wr2 p n t) ∧ Hid (wr2.ownsRow (p + 1) 4 1 u13 n (vals n (bv t))) ∧ Hid (Below w.heap.size w wr2))
                  case atStart => exact ⟨0, by omega, rfl, PT.out, RR.out, B6.out⟩
                  case round =>
                    clear PT RR B6
                    obtain ⟨i2, hig2, rfl, PT, RR, B6⟩ := hrel
                    cases gk with
                    | succ g2 =>
                      have hlt4 : (i2 : Int) < (n : Int) := by omega
                      obtain ⟨gg, cc, rfl, hO⟩ := Ow.of_own RR.out rfl (by omega)
                      have OT := Lib.hid hO
                      clear hO
                      cases hv : t i2 with
                      | true =>
                        have HW2 := Lib.hid hv
                        clear hv
                        have HT := Lib.hid (show t i2 = true from HW2.out)
                        have hcell := OT.out.cell i2 (by omega)
                        rw [show bv t i2 = .bool true by unfold bv; rw [HW2.out]] at hcell
                        go_wp2_with fail
                        go_quiet ((go_at_call 18; exact Calls.quiet_of (taken_at _ _ _ _ true (PT.out.po.drew _) HT.out)))
                        go_wp2
                        go_roundg g2
                        case measure => omega
                        case rel => exact ⟨i2 + 1, by omega, by go_num, PT.out.drew _, RR.out, below_drewN B6.out _⟩
                      | false =>
                        have HW2 := Lib.hid hv
                        clear hv
                        have HT := Lib.hid (show t i2 = false from HW2.out)
                        have hcell := OT.out.cell i2 (by omega)
                        rw [show bv t i2 = .bool false by unfold bv; rw [HW2.out]] at hcell
                        go_wp2_with fail
                        go_quiet ((go_at_call 18; exact Calls.quiet_of (taken_at _ _ _ _ false (PT.out.po.drew _) HT.out)))
                        go_wp2
                        go_roundg g2
                        case measure => omega
                        case rel => exact ⟨i2 + 1, by omega, by go_num, PT.out.drew _, RR.out, below_drewN B6.out _⟩
                    | zero =>
                      obtain rfl : n = i2 := by omega
                      have hlt4 : ¬ ((n : Int) < (n : Int)) := by omega
                      go_wp2
                      go_ret
                      exact ⟨rfl, B6.out⟩
                · obtain ⟨k2, rfl⟩ := Int.eq_ofNat_of_zero_le (show 0 ≤ m by omega)
                  have hk1 : 1 ≤ k2 := by omega
                  have hd1 : decide ((k2 : Int) < 1) = false := by simp; omega
                  clear hm1
                  cases hl : low n t k2 with
                  | none =>
                    have HL := Lib.hid hl
                    clear hl
                    go_wp2_with fail
                    refine (takeRun_full _ _ _ k2 HI.out.po hk1 (by omega) HL.out).mono ?_
                    rintro e w6 ⟨rfl, m3, rfl⟩
                    have PT := Lib.hid (HI.out.drew m3)
                    have B6 := Lib.hid (below_drewN HW.out m3)
                    have RR := Lib.hid (show (wr.drewN m3).ownsRow (p + 1) 4 1 u13 n (vals n (bv t)) from HR.out)
                    clear HI HW HR
                    go_wp2_with fail
                    generalize wr.drewN m3 = w6 at *
                    go_loopg [17] n (fun g s wr2 => ∃ i2 : Nat, i2 + g = n ∧ s = .int .i64 i2 ∧ Hid (Pl wr2 p n t) ∧ Hid (wr2.ownsRow (p + 1) 4 1 u13 n (vals n (bv t))) ∧ Hid (Below w.heap.size w wr2))
                    case atStart => exact ⟨0, by omega, rfl, PT.out, RR.out, B6.out⟩
                    case round =>
                      clear PT RR B6
                      obtain ⟨i2, hig2, rfl, PT, RR, B6⟩ := hrel
                      cases gk with
                      | succ g2 =>
                        have hlt4 : (i2 : Int) < (n : Int) := by omega
                        obtain ⟨gg, cc, rfl, hO⟩ := Ow.of_own RR.out rfl (by omega)
                        have OT := Lib.hid hO
                        clear hO
                        cases hv : t i2 with
                        | true =>
                          have HW2 := Lib.hid hv
                          clear hv
                          have HT := Lib.hid (show t i2 = true from HW2.out)
                          have hcell := OT.out.cell i2 (by omega)
                          rw [show bv t i2 = .bool true by unfold bv; rw [HW2.out]] at hcell
                          go_wp2_with fail
                          go_quiet ((go_at_call 18; exact Calls.quiet_of (taken_at _ _ _ _ true (PT.out.po.drew _) HT.out)))
                          go_wp2
                          go_roundg g2
                          case measure => omega
                          case rel => exact ⟨i2 + 1, by omega, by go_num, PT.out.drew _, RR.out, below_drewN B6.out _⟩
                        | false =>
                          have HW2 := Lib.hid hv
                          clear hv
                          have HT := Lib.hid (show t i2 = false from HW2.out)
                          have hcell := OT.out.cell i2 (by omega)
                          rw [show bv t i2 = .bool false by unfold bv; rw [HW2.out]] at hcell
                          go_wp2_with fail
                          go_quiet ((go_at_call 18; exact Calls.quiet_of (taken_at _ _ _ _ false (PT.out.po.drew _) HT.out)))
                          go_wp2
                          go_roundg g2
                          case measure => omega
                          case rel => exact ⟨i2 + 1, by omega, by go_num, PT.out.drew _, RR.out, below_drewN B6.out _⟩
                      | zero =>
                        obtain rfl : n = i2 := by omega
                        have hlt4 : ¬ ((n : Int) < (n : Int)) := by omega
                        go_wp2
                        go_ret
                        exact ⟨rfl, B6.out⟩
                  | some a =>
                    obtain ⟨hrun, _⟩ := low_spec hl
                    have hak := hrun.1
                    have HL := Lib.hid hl
                    have HU := Lib.hid hrun.2
                    clear hl hrun
                    go_wp2_with fail
                    refine (takeRun_ok _ _ _ k2 a HI.out hk1 HL.out).mono ?_
                    rintro e w6 ⟨rfl, hp, ho⟩
                    have PT := Lib.hid hp
                    have B6 := Lib.hid (HW.out.trans (ho.below hp0))
                    have RR : Hid (w6.ownsRow (p + 1) 4 1 u13 n (vals n (bv t))) := HR.out.kept ⟨ho.os, ho.tape, ho.output, by rw [ho.size]; exact Nat.le_refl _, fun q hq hne => ho.block q (fun e => hne (by rw [e]))⟩ (row := some p) (.inr fun e => by have := (HR.out.lt p e).1; omega)
                    clear HI HW HR hp ho
                    go_wp2_with fail
                    go_loopg [17] n (fun g s wr2 => ∃ i2 : Nat, i2 + g = n ∧ s = .int .i64 i2 ∧ Hid (Pl wr2 p n (setR t a k2 true)) ∧ Hid (wr2.ownsRow (p + 1) 4 1 u13 n (vals n (bv t))) ∧ Hid (Below w.heap.size w wr2))
                    case atStart => exact ⟨0, by omega, rfl, PT.out, RR.out, B6.out⟩
                    case round =>
                      clear PT RR B6
                      obtain ⟨i2, hig2, rfl, PT, RR, B6⟩ := hrel
                      cases gk with
                      | succ g2 =>
                        have hlt4 : (i2 : Int) < (n : Int) := by omega
                        obtain ⟨gg, cc, rfl, hO⟩ := Ow.of_own RR.out rfl (by omega)
                        have OT := Lib.hid hO
                        clear hO
                        by_cases q1 : a ≤ i2
                        · by_cases q2 : i2 < a + k2
                          · have HW2 := Lib.hid (HU.out i2 q1 q2)
                            have q3 : (i2 : Int) < (a : Int) + (k2 : Int) := by omega
                            have HT := Lib.hid (show setR t a k2 true i2 = true from by unfold setR; rw [if_pos ⟨q1, q2⟩])
                            have hcell := OT.out.cell i2 (by omega)
                            rw [show bv t i2 = .bool false by unfold bv; rw [HW2.out]] at hcell
                            go_wp2_with fail
                            go_quiet ((go_at_call 18; exact Calls.quiet_of (taken_at _ _ _ _ true (PT.out.po.drew _) HT.out)))
                            go_wp2
                            go_roundg g2
                            case measure => omega
                            case rel => exact ⟨i2 + 1, by omega, by go_num, PT.out.drew _, RR.out, below_drewN B6.out _⟩
                          · have q3 : decide ((i2 : Int) < (a : Int) + (k2 : Int)) = false := by simp; omega
                            cases hv : t i2 with
                            | true =>
                              have HW2 := Lib.hid hv
                              clear hv
                              have HT := Lib.hid (show setR t a k2 true i2 = true from by unfold setR; rw [if_neg (by omega)]; exact HW2.out)
                              have hcell := OT.out.cell i2 (by omega)
                              rw [show bv t i2 = .bool true by unfold bv; rw [HW2.out]] at hcell
                              go_wp2_with fail
                              go_quiet ((go_at_call 18; exact Calls.quiet_of (taken_at _ _ _ _ true (PT.out.po.drew _) HT.out)))
                              go_wp2
                              go_roundg g2
                              case measure => omega
                              case rel => exact ⟨i2 + 1, by omega, by go_num, PT.out.drew _, RR.out, below_drewN B6.out _⟩
                            | false =>
                              have HW2 := Lib.hid hv
                              clear hv
                              have HT := Lib.hid (show setR t a k2 true i2 = false from by unfold setR; rw [if_neg (by omega)]; exact HW2.out)
                              have hcell := OT.out.cell i2 (by omega)
                              rw [show bv t i2 = .bool false by unfold bv; rw [HW2.out]] at hcell
                              go_wp2_with fail
                              go_quiet ((go_at_call 18; exact Calls.quiet_of (taken_at _ _ _ _ false (PT.out.po.drew _) HT.out)))
                              go_wp2
                              go_roundg g2
                              case measure => omega
                              case rel => exact ⟨i2 + 1, by omega, by go_num, PT.out.drew _, RR.out, below_drewN B6.out _⟩
                        · have q3 : decide (a ≤ i2) = false := by simpa using q1
                          cases hv : t i2 with
                          | true =>
                            have HW2 := Lib.hid hv
                            clear hv
                            have HT := Lib.hid (show setR t a k2 true i2 = true from by unfold setR; rw [if_neg (by omega)]; exact HW2.out)
                            have hcell := OT.out.cell i2 (by omega)
                            rw [show bv t i2 = .bool true by unfold bv; rw [HW2.out]] at hcell
                            go_wp2_with fail
                            go_quiet ((go_at_call 18; exact Calls.quiet_of (taken_at _ _ _ _ true (PT.out.po.drew _) HT.out)))
                            go_wp2
                            go_roundg g2
                            case measure => omega
                            case rel => exact ⟨i2 + 1, by omega, by go_num, PT.out.drew _, RR.out, below_drewN B6.out _⟩
                          | false =>
                            have HW2 := Lib.hid hv
                            clear hv
                            have HT := Lib.hid (show setR t a k2 true i2 = false from by unfold setR; rw [if_neg (by omega)]; exact HW2.out)
                            have hcell := OT.out.cell i2 (by omega)
                            rw [show bv t i2 = .bool false by unfold bv; rw [HW2.out]] at hcell
                            go_wp2_with fail
                            go_quiet ((go_at_call 18; exact Calls.quiet_of (taken_at _ _ _ _ false (PT.out.po.drew _) HT.out)))
                            go_wp2
                            go_roundg g2
                            case measure => omega
                            case rel => exact ⟨i2 + 1, by omega, by go_num, PT.out.drew _, RR.out, below_drewN B6.out _⟩
                      | zero =>
                        obtain rfl : n = i2 := by omega
                        have hlt4 : ¬ ((n : Int) < (n : Int)) := by omega
                        go_wp2
                        go_ret
                        exact ⟨rfl, B6.out⟩
end Go.Proofs.Ythbmheokbekdeaa
