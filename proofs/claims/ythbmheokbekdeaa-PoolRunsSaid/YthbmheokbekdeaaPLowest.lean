/- The walk of PoolLowest: it returns true, and nothing that was there has turned. Condition: the given pages' cells are known. -/
import Derived.Test.YthbmheokbekdeaaPSeq
import Derived.Deep.RegionHeld3
namespace Go.Proofs.Ythbmheokbekdeaa
open Go.RowKit

/-- The bytes that are read. -/
def Given (w : World) (A : Option Addr) (len : Nat) : Prop := ∀ i, i < len → ∃ (b o : Nat) (v : Int), A = some ⟨b, o, none⟩ ∧ b < w.heap.size ∧ w.cell? ⟨b, o + i, none⟩ = some (.int .u8 v) ∧ (Lit.int .u8 v).wf = true

theorem low1_some {n a : Nat} {t : Nat → Bool} (h : low n t 1 = some a) : a < n ∧ t a = false ∧ ∀ i, i < a → t i = true := by
  obtain ⟨h1, h2⟩ := low_spec h
  have := h1.1
  refine ⟨by omega, h1.2 a (by omega) (by omega), fun i hi => ?_⟩
  cases ht : t i with
  | true => rfl
  | false =>
    exact absurd ⟨by omega, fun j hj1 hj2 => by obtain rfl : j = i := by omega
                                                exact ht⟩ (h2 i hi)
theorem low1_none {n : Nat} {t : Nat → Bool} (h : low n t 1 = none) (i : Nat) (hi : i < n) : t i = true := by
  cases ht : t i with
  | true => rfl
  | false =>
    exact absurd ⟨by omega, fun j hj1 hj2 => by obtain rfl : j = i := by omega
                                                exact ht⟩ (low_absent h i)
theorem Only.cell {g : Nat} {w w' : World} (h : Only g w w') {p : Addr} (hp : p.block ≠ g) : w'.cell? p = w.cell? p := World.cell?_of_block (w := w) (h.block p.block hp)
theorem cnt_all {t : Nat → Bool} : ∀ n, (∀ i, i < n → t i = true) → cnt t n = n
  | 0, _ => rfl
  | n + 1, h => by
    unfold cnt
    rw [cnt_all n (fun i hi => h i (by omega)), h n (by omega)]
    rfl
section
variable {w : World}
theorem take_some (p n a : Nat) (t : Nat → Bool) (h : Pl w p n t) (hl : low n t 1 = some a) :
    Calls Try.prog 11 #[.pointer (some ⟨p, 0, none⟩)] w fun e w' => e = .returned (.tuple #[.int .i64 a, .int .i64 0]) ∧ Pl w' p n (setR t a 1 true) ∧ Only p w w' := by
  have HC := Lib.hid (takeRun_ok p n t 1 a h (by decide) hl)
  clear h hl
  go_enter Try.func11, Try.ntmps11
  go_wp2_with fail
  refine HC.out.mono ?_
  rintro e w' ⟨rfl, hp, ho⟩
  have HP := Lib.hid hp
  have HO := Lib.hid ho
  clear hp ho
  go_wp2
  go_ret2
  exact ⟨rfl, HP.out, HO.out⟩
theorem take_none (p n : Nat) (t : Nat → Bool) (h : Pl w p n t) (hl : low n t 1 = none) :
    Calls Try.prog 11 #[.pointer (some ⟨p, 0, none⟩)] w fun e w' => e = .returned (.tuple #[.int .i64 0, .int .i64 5]) ∧ ∃ m, w' = w.drewN m := by
  have HC := Lib.hid (takeRun_full _ n t 1 h.po (by decide) (by decide) hl)
  clear h hl
  go_enter Try.func11, Try.ntmps11
  go_wp2_with fail
  refine HC.out.mono ?_
  rintro e w' ⟨rfl, m, rfl⟩
  go_wp2
  go_ret2
  exact ⟨rfl, _, rfl⟩
end

set_option maxRecDepth 100000 in
set_option maxHeartbeats 1000000 in
theorem lowest_some (pages : Int) (A : Option Addr) (len cap : Nat) (w : World) (h0 : (Lit.int .u8 pages).wf = true) (_hlen : len ≤ 9223372036854775807) (hD : Given w A len) :
    Calls Try.prog 7 #[.int .u8 pages, .slice A len cap] w fun e w' => e = .returned (.bool true) ∧ Below w.heap.size w w' := by
  have b0 := bounds_u8 h0
  clear h0
  have HD := Lib.hid hD
  clear hD
  obtain ⟨n, hn⟩ := Int.eq_ofNat_of_zero_le (show 0 ≤ pages % 129 by omega)
  have hn128 : n ≤ 128 := by omega
  go_enter Try.func7, Try.ntmps7
  go_wp2_with fail
  refine shown_any.mono ?_
  rintro e w1 ⟨rfl, hb⟩
  have HB := Lib.hid hb
  clear hb
  go_wp2_with fail
  refine (new_ok n hn128).mono ?_
  rintro e w2 ⟨rfl, hp, hz, hb⟩
  have HP := Lib.hid (hp.congr ini_zero.symm)
  have HB2 := Lib.hid (HB.out.trans (hb.mono HB.out.size))
  have hp0 : w.heap.size ≤ w1.heap.size := HB.out.size
  have hpl : w1.heap.size < w2.heap.size := by omega
  generalize w1.heap.size = p at *
  clear hp hz hb
  go_wp2_with fail
  refine (new_ok n hn128).mono ?_
  rintro e w3 ⟨rfl, hp, hz, hb⟩
  have HP3 := Lib.hid (HP.out.below hb hpl)
  have HQ3 := Lib.hid (hp.congr ini_zero.symm)
  have HB3 := Lib.hid (HB2.out.trans (hb.mono HB2.out.size))
  generalize w2.heap.size = q at *
  have hq0 : w.heap.size ≤ q := by omega
  have hpq : p ≠ q := by omega
  clear hp hz hb
  go_wp2_with fail
  go_loopg [11] n (fun g s wr => ∃ i : Nat, i + g = n ∧ s = .int .i64 i ∧ Hid (Pl wr p n (ini i)) ∧ Hid (Pl wr q n (ini i)) ∧ Hid (Below w.heap.size w wr))
  case atStart => exact ⟨0, by omega, rfl, HP3.out, HQ3.out, HB3.out⟩
  case round =>
    obtain ⟨i, hig, rfl, HI, HJ, HW⟩ := hrel
    cases gk with
    | succ g =>
      have hlt : (i : Int) < (n : Int) := by omega
      go_wp2_with fail
      refine (take_ini _ _ _ HI.out (by omega)).mono ?_
      rintro e w4 ⟨rfl, hp, ho⟩
      have P4 := Lib.hid hp
      have Q4 := Lib.hid (HJ.out.only ho (Ne.symm hpq))
      have B4 := Lib.hid (HW.out.trans (ho.below hp0))
      clear hp ho
      go_wp2_with fail
      refine (takeRun_ini _ _ _ Q4.out (by omega)).mono ?_
      rintro e w5 ⟨rfl, hp, ho⟩
      have Q5 := Lib.hid hp
      have P5 := Lib.hid (P4.out.only ho hpq)
      have B5 := Lib.hid (B4.out.trans (ho.below hq0))
      clear hp ho
      go_wp2
      go_roundg g
      case measure => omega
      case rel => exact ⟨i + 1, by omega, by go_num, P5.out, Q5.out, B5.out⟩
    | zero =>
      obtain rfl : n = i := by omega
      have hlt : ¬ ((n : Int) < (n : Int)) := by omega
      go_wp2_with fail
      go_loopg [12] len (fun g s wr => ∃ (k : Nat) (t : Nat → Bool), k + g = len ∧ s = .int .i64 k ∧ Hid (Pl wr p n t) ∧ Hid (Pl wr q n t) ∧ Hid (Below w.heap.size w wr))
      case atStart => exact ⟨0, _, by omega, rfl, HI.out, HJ.out, HW.out⟩
      case round =>
        clear HI HJ HW
        obtain ⟨k, t, hkg, rfl, HI, HJ, HW⟩ := hrel
        by_cases hin : k < len ∧ k < 100
        · obtain ⟨hlt, h100⟩ := hin
          obtain ⟨b, o, v, rfl, hblt, c0, f1⟩ := HD.out k hlt
          have d0 := (HW.out.cell (p := ⟨b, o + k, none⟩) hblt).trans c0
          have b1 := bounds_u8 f1
          clear c0 f1
          obtain ⟨g, rfl⟩ : ∃ g, gk = g + 1 := ⟨gk - 1, by omega⟩
          go_wp2_with fail
          have hwv : IntKind.i64.wrap v = v := IntWalk.i64_in _ (by omega)
          have HI1 := Lib.hid (show Pl wr.drew p n t from HI.out.drew 1)
          go_region_held3 (fun w' => w'.cell? ⟨b, o + k, none⟩ = some (.int .u8 v)) (first | go_keep | exact d5 | exact d4) (first
            | (go_at_call 14; (with_reducible refine (give_any q n t v Q4.out).mono ?_); rintro e w5 ⟨rfl, hp, ho⟩; have Q5 := Lib.hid hp; have P5 := Lib.hid (P4.out.only ho hpq); have B5 := Lib.hid (B4.out.trans (ho.below hq0)); have d5 := (Only.cell ho (p := ⟨b, o + k, none⟩) (by show b ≠ q; omega)).trans d4; clear hp ho)
            | (go_at_call 14; (with_reducible refine (give_any p n t v HI1.out).mono ?_); rintro e w4 ⟨rfl, hp, ho⟩; have P4 := Lib.hid hp; have Q4 := Lib.hid ((HJ.out.drew 1).only ho (Ne.symm hpq)); have B4 := Lib.hid ((below_drewN HW.out 1).trans (ho.below hp0)); have d4 := (Only.cell ho (p := ⟨b, o + k, none⟩) (by show b ≠ p; omega)).trans d0; clear hp ho))
          all_goals
            go_wp2
            go_roundg g
            case measure => omega
            case rel => exact ⟨k + 1, _, by omega, by go_num, P5.out, Q5.out, B5.out⟩
        · have hs : (decide (k < len) = false) ∨ (k < len ∧ decide ((k : Int) < 100) = false) := by
            by_cases h1 : k < len
            · right; exact ⟨h1, by simp; omega⟩
            · left; simpa using h1
          clear hin hkg
          cases hl : low n t 1 with
          | some a =>
            obtain ⟨han, hta, hall⟩ := low1_some hl
            have HL := Lib.hid hl
            have HA := Lib.hid hall
            clear hl hta hall
            rcases hs with hs | ⟨hlt2, hs⟩
            all_goals
              go_wp2_with fail
              refine (take_some _ _ _ _ HI.out HL.out).mono ?_
              rintro e w4 ⟨rfl, hp, ho⟩
              have P4 := Lib.hid hp
              have Q4 := Lib.hid (HJ.out.only ho (Ne.symm hpq))
              have B4 := Lib.hid (HW.out.trans (ho.below hp0))
              clear hp ho
              go_wp2_with fail
              refine (takeRun_ok _ _ _ 1 _ Q4.out (by decide) HL.out).mono ?_
              rintro e w5 ⟨rfl, hp, ho⟩
              have P5 := Lib.hid (P4.out.only ho hpq)
              have B5 := Lib.hid (B4.out.trans (ho.below hq0))
              clear hp ho
              go_wp2_with fail
              go_loopg [17] a (fun g s wr2 => ∃ i m : Nat, i + g = a ∧ s = .int .i64 i ∧ wr2 = w5.drewN m)
              case atStart => exact ⟨0, 0, by omega, rfl, rfl⟩
              case round =>
                obtain ⟨i, m, hig, rfl, rfl⟩ := hrel
                cases gk with
                | succ g =>
                  have hia : (i : Int) < (a : Int) := by omega
                  have HT := Lib.hid (show setR t a 1 true i = true by unfold setR; rw [if_neg (by omega)]; exact HA.out i (by omega))
                  go_wp2_with fail
                  refine (taken_at _ _ _ _ true (P5.out.po.drew m) HT.out).mono ?_
                  rintro e w' ⟨rfl, m2, rfl⟩
                  go_wp2
                  go_roundg g
                  case measure => omega
                  case rel => exact ⟨i + 1, _, by omega, by go_num, rfl⟩
                | zero =>
                  obtain rfl : a = i := by omega
                  have hia : ¬ ((a : Int) < (a : Int)) := by omega
                  have hia2 : (a : Int) < (n : Int) := by omega
                  have HT := Lib.hid (show setR t a 1 true a = true by unfold setR; rw [if_pos (by omega)])
                  go_wp2_with fail
                  refine (taken_at _ _ _ _ true (P5.out.po.drew m) HT.out).mono ?_
                  rintro e w' ⟨rfl, m2, rfl⟩
                  go_wp2
                  go_ret
                  exact ⟨rfl, below_drewN B5.out _⟩
          | none =>
            have HA := Lib.hid (low1_none hl)
            have HF := Lib.hid (show free n t = 0 by unfold free; rw [cnt_all n HA.out]; omega)
            have HL := Lib.hid hl
            clear hl
            rcases hs with hs | ⟨hlt2, hs⟩
            all_goals
              go_wp2_with fail
              refine (take_none _ _ _ HI.out HL.out).mono ?_
              rintro e w' ⟨rfl, m, rfl⟩
              go_wp2_with fail
              refine (takeRun_full _ _ _ 1 (HJ.out.po.drew m) (by decide) (by decide) HL.out).mono ?_
              rintro e w' ⟨rfl, m2, rfl⟩
              go_wp2_with fail
              refine wp_loop_rounds 1 ?_
              rw [rounds_succ]
              by_cases hn0 : 0 < n
              · have hd : (0 : Int) < (n : Int) := by omega
                go_wp2_with fail
                refine (taken_at _ _ _ 0 true (HI.out.po.drew _) (HA.out 0 hn0)).mono ?_
                rintro e w' ⟨rfl, m3, rfl⟩
                go_wp2_with fail
                refine (free_any _ _ _ (HI.out.po.drew _)).mono ?_
                rw [HF.out]
                rintro e w' ⟨rfl, rfl⟩
                go_wp2
                go_ret
                exact ⟨rfl, below_drewN HW.out _⟩
              · have hd : decide ((0 : Int) < (n : Int)) = false := by simp; omega
                have hd2 : decide (0 < n) = false := by simp; omega
                go_wp2
                go_ret
                exact ⟨rfl, below_drewN HW.out _⟩
end Go.Proofs.Ythbmheokbekdeaa
