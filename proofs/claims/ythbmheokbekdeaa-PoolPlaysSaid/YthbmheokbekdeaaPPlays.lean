/- The walk of PoolPlays: it returns true, and nothing that was there has turned. Condition: the deeds' cells are known. -/
import Derived.Test.YthbmheokbekdeaaPRef
import Derived.Test.YthbmheokbekdeaaPCountsOpen
namespace Go.Proofs.Ythbmheokbekdeaa
open Go.RowKit

/-- make(Pool, n). -/
theorem run_make_bools (w : World) (n : Nat) (hn : n ≤ 128) :
    (Instr.makeSlice 29 (.int .i64 (n : Int)) (.int .i64 (n : Int))).run Try.prog w = .ok (.slice (some ⟨w.heap.size, 0, none⟩) n n) (w.alloc (.cells (vals n (bv fun _ => false)).toArray 4)) := by
  obtain ⟨i0, hi, hz0, hz1, hz2⟩ := info_parts infoB
  have h := run_make (P := Try.prog) w 29 4 i0 (.bool false) Try.underlying29 hi hz0 .i64 .i64 (n : Int) (n : Int) (by omega) (by omega) (by rw [hz2]; omega) (by omega)
  rw [h, hz1]
  have e : madeCells (Value.cells (.bool false)) (n * 1) = (vals n (bv fun _ => false)).toArray := by
    have hl := toList_madeCells_one (.bool false) (n * 1)
    apply Array.toList_inj.1
    have hv : Value.cells (.bool false) = #[.bool false] := rfl
    rw [hv, hl, Nat.mul_one, vals_replicate]
    rfl
  simp only [Int.toNat_natCast]
  rw [e]

/-- What holds ahead of each deed. -/
structure PInv (w : World) (p n : Nat) (wr : World) (g c : Nat) (t : Nat → Bool) : Prop where
  pl : Pl wr p n t
  ro : Ro wr (p + 1) g n c t
  bel : Below w.heap.size w wr
theorem PInv.drew {w wr : World} {p n g c : Nat} {t : Nat → Bool} (h : PInv w p n wr g c t) (m : Nat) : PInv w p n (wr.drewN m) g c t := ⟨h.pl.drew m, Ow.drew h.ro m, below_drewN h.bel m⟩

set_option maxRecDepth 100000 in
set_option maxHeartbeats 2000000 in
theorem plays_some (pages : Int) (A : Option Addr) (len cap : Nat) (page : Int) (w : World) (h0 : (Lit.int .i64 pages).wf = true) (h1 : (Lit.int .i64 page).wf = true) (_hlen : len ≤ 9223372036854775807) (hD : Deeds w A len) :
    Calls Try.prog 3 #[.int .i64 pages, .slice A len cap, .int .i64 page] w fun e w' => e = .returned (.bool true) ∧ Below w.heap.size w w' := by
  have b0 := bounds_i64 h0
  have bp := bounds_i64 h1
  clear h0 h1
  have HD := Lib.hid hD
  clear hD
  by_cases hbad : pages < 0 ∨ 128 < pages
  · have HN := Lib.hid hbad
    rcases hbad with hbad | hbad
    · go_enter Try.func3, Try.ntmps3
      go_wp2_with fail
      refine shown_any.mono ?_
      rintro e w1 ⟨rfl, hb⟩
      have HB := Lib.hid hb
      clear hb
      go_wp2_with fail
      refine (new_bad _ HN.out).mono ?_
      rintro e w' ⟨rfl, rfl⟩
      go_wp2
      go_ret
      exact ⟨rfl, HB.out⟩
    · have hge : ¬ pages < 0 := by omega
      go_enter Try.func3, Try.ntmps3
      go_wp2_with fail
      refine shown_any.mono ?_
      rintro e w1 ⟨rfl, hb⟩
      have HB := Lib.hid hb
      clear hb
      go_wp2_with fail
      refine (new_bad _ HN.out).mono ?_
      rintro e w' ⟨rfl, rfl⟩
      go_wp2
      go_ret
      exact ⟨rfl, HB.out⟩
  obtain ⟨n, rfl⟩ := Int.eq_ofNat_of_zero_le (show 0 ≤ pages by omega)
  have hn128 : n ≤ 128 := by omega
  have hmk := fun w => run_make_bools w n hn128
  have hd1 : decide ((n : Int) < 0) = false := by simp
  have hd2 : decide ((128 : Int) < (n : Int)) = false := by simp; omega
  clear hbad b0
  go_enter Try.func3, Try.ntmps3
  go_wp2_with fail
  refine shown_any.mono ?_
  rintro e w1 ⟨rfl, hb⟩
  have HB := Lib.hid hb
  clear hb
  go_wp2_with fail
  refine (new_ok n hn128).mono ?_
  rintro e w2 ⟨rfl, hp, hz, hb⟩
  have hp0 : w.heap.size ≤ w1.heap.size := HB.out.size
  have I0 : Hid (PInv w w1.heap.size n (w2.alloc (.cells (vals n (bv fun _ => false)).toArray 4)) w2.heap.size n (fun _ => false)) := by
    refine ⟨⟨hp.blk.alloc _, hp.small, hp.off⟩, ?_, (HB.out.trans (hb.mono HB.out.size)).alloc (by omega) _⟩
    exact World.ownsRow_lit (base := w1.heap.size + 1) (e := 4) (size := 1) w2 (vals n (bv fun _ => false)).toArray n (by omega) (by unfold maxLen; omega) (by simp [vals])
  generalize w1.heap.size = p at *
  clear hp hz hb
  go_wp2_with fail
  clear hmk
  go_loopg [10, 11] len (fun gh s10 s wr => ∃ (k g c : Nat) (t : Nat → Bool), k + gh = len ∧ s10 = .slice (some ⟨g, 0, none⟩) n c ∧ s = .int .i64 k ∧ Hid (PInv w p n wr g c t))
  case atStart => exact ⟨0, _, _, _, by omega, rfl, rfl, I0.out⟩
  case round =>
    obtain ⟨k, g, c, t, hkg, rfl, rfl, HI⟩ := hrel
    by_cases hin : k < len ∧ k < 200
    · obtain ⟨hlt, h200⟩ := hin
      obtain ⟨b, o, kd, m, rfl, hblt, c0, c1, f1⟩ := HD.out k hlt
      have d0 := (HI.out.bel.cell (p := ⟨b, o + k * 2, none⟩) hblt).trans c0
      have d1 := (HI.out.bel.cell (p := ⟨b, o + k * 2 + 1, none⟩) hblt).trans c1
      have b1 := bounds_i64 f1
      have hgp : g ≠ p := by have := (Ow.lt HI.out.ro).1; omega
      clear f1 c0
      obtain ⟨g2, rfl⟩ : ∃ g2, gk = g2 + 1 := ⟨gk - 1, by omega⟩
      by_cases k0 : kd = 0
      · subst k0
        clear c1
        go_wp2_with fail
        refine (take_any _ _ _ HI.out.pl).mono ?_
        rintro e w3 ⟨rfl, hp, ho⟩
        have P3 := Lib.hid hp
        have B3 := Lib.hid (HI.out.bel.trans (ho.below hp0))
        have R3 := Lib.hid (show Ro w3 (p + 1) g n c t from Ow.only HI.out.ro ho hgp)
        have hs3 := hp.blk.lt
        clear hp ho d0 d1
        go_wp2_with fail
        refine (rtake_any _ _ _ _ _ 1 hn128 (by omega) R3.out (by decide)).mono ?_
        rintro e w4 ⟨g', c', rfl, hr, hb⟩
        have I4 : Hid (PInv w p n w4 g' c' (trT n t 1)) := ⟨P3.out.below hb hs3, hr, B3.out.trans (hb.mono B3.out.size)⟩
        clear hr hb
        go_wp2_with fail
        refine (free_any _ _ _ I4.out.pl.po).mono ?_
        rintro e w' ⟨rfl, rfl⟩
        go_wp2_with fail
        refine (rfree_any _ _ _ _ _ hn128 I4.out.ro).mono ?_
        rintro e w' ⟨rfl, rfl⟩
        go_wp2
        go_roundg g2
        case measure => omega
        case rel => exact ⟨k + 1, g', c', _, by omega, rfl, by go_num, I4.out⟩
      by_cases k1 : kd = 1
      · subst k1
        clear k0
        go_wp2_with fail
        refine (takeRun_any _ _ _ _ HI.out.pl b1.2).mono ?_
        rintro e w3 ⟨rfl, hp, ho⟩
        have P3 := Lib.hid hp
        have B3 := Lib.hid (HI.out.bel.trans (ho.below hp0))
        have R3 := Lib.hid (show Ro w3 (p + 1) g n c t from Ow.only HI.out.ro ho hgp)
        have hs3 := hp.blk.lt
        have d3 := (B3.out.cell (p := ⟨b, o + k * 2 + 1, none⟩) hblt).trans c1
        clear hp ho d0 d1 c1
        go_wp2_with fail
        refine (rtake_any _ _ _ _ _ _ hn128 (by omega) R3.out b1.2).mono ?_
        rintro e w4 ⟨g', c', rfl, hr, hb⟩
        have I4 : Hid (PInv w p n w4 g' c' (trT n t m)) := ⟨P3.out.below hb hs3, hr, B3.out.trans (hb.mono B3.out.size)⟩
        clear hr hb d3
        go_wp2_with fail
        refine (free_any _ _ _ I4.out.pl.po).mono ?_
        rintro e w' ⟨rfl, rfl⟩
        go_wp2_with fail
        refine (rfree_any _ _ _ _ _ hn128 I4.out.ro).mono ?_
        rintro e w' ⟨rfl, rfl⟩
        go_wp2
        go_roundg g2
        case measure => omega
        case rel => exact ⟨k + 1, g', c', _, by omega, rfl, by go_num, I4.out⟩
      go_wp2_with fail
      refine (give_any _ _ _ _ HI.out.pl).mono ?_
      rintro e w3 ⟨rfl, hp, ho⟩
      have P3 := Lib.hid hp
      have B3 := Lib.hid (HI.out.bel.trans (ho.below hp0))
      have R3 := Lib.hid (show Ro w3 (p + 1) g n c t from Ow.only HI.out.ro ho hgp)
      have hs3 := hp.blk.lt
      have d3 := (B3.out.cell (p := ⟨b, o + k * 2 + 1, none⟩) hblt).trans c1
      clear hp ho d0 d1 c1
      go_wp2_with fail
      refine (rgive_any _ _ _ _ _ _ hn128 (by omega) R3.out).mono ?_
      rintro e w4 ⟨g', c', rfl, hr, hb⟩
      have I4 : Hid (PInv w p n w4 g' c' (gvT n t m)) := ⟨P3.out.below hb hs3, hr, B3.out.trans (hb.mono B3.out.size)⟩
      clear hr hb d3
      go_wp2_with fail
      refine (free_any _ _ _ I4.out.pl.po).mono ?_
      rintro e w' ⟨rfl, rfl⟩
      go_wp2_with fail
      refine (rfree_any _ _ _ _ _ hn128 I4.out.ro).mono ?_
      rintro e w' ⟨rfl, rfl⟩
      go_wp2
      go_roundg g2
      case measure => omega
      case rel => exact ⟨k + 1, g', c', _, by omega, rfl, by go_num, I4.out⟩
    · have hs : (decide (k < len) = false) ∨ (k < len ∧ decide ((k : Int) < 200) = false) := by
        by_cases h1 : k < len
        · right; exact ⟨h1, by simp; omega⟩
        · left; simpa using h1
      clear hin hkg
      rcases hs with hs | ⟨hlt2, hs⟩
      all_goals
        go_wp2_with fail
        go_loopg [16] n (fun gh s wr2 => ∃ i : Nat, i + gh = n ∧ s = .int .i64 i ∧ Hid (PInv w p n wr2 g c t))
        case atStart => exact ⟨0, by omega, rfl, HI.out⟩
        case round =>
          clear HI
          obtain ⟨i, hig, rfl, HI⟩ := hrel
          cases gk with
          | succ g2 =>
            have hlt4 : (i : Int) < (n : Int) := by omega
            have hc := HI.out.ro.cell i (by omega)
            go_wp2_with fail
            go_quiet ((go_at_call 18; exact Calls.quiet_of (taken_at _ _ _ _ (t i) (HI.out.pl.po.drew _) rfl)))
            go_wp2
            go_roundg g2
            case measure => omega
            case rel => exact ⟨i + 1, by omega, by go_num, HI.out.drew _⟩
          | zero =>
            obtain rfl : n = i := by omega
            have hlt4 : ¬ ((n : Int) < (n : Int)) := by omega
            by_cases q0 : 0 ≤ page
            · by_cases q1 : page < (n : Int)
              · go_wp2_with fail
                refine (len_any _ _ _ HI.out.pl.po).mono ?_
                rintro e w' ⟨rfl, rfl⟩
                go_wp2
                go_ret
                exact ⟨rfl, HI.out.bel⟩
              · have q2 : decide (page < (n : Int)) = false := by simpa using q1
                go_wp2_with fail
                refine (len_any _ _ _ HI.out.pl.po).mono ?_
                rintro e w' ⟨rfl, rfl⟩
                go_wp2_with fail
                refine (taken_no _ _ _ _ HI.out.pl.po (by omega)).mono ?_
                rintro e w' ⟨rfl, m2, rfl⟩
                go_wp2
                go_ret
                exact ⟨rfl, below_drewN HI.out.bel _⟩
            · have q2 : decide (0 ≤ page) = false := by simpa using q0
              go_wp2_with fail
              refine (len_any _ _ _ HI.out.pl.po).mono ?_
              rintro e w' ⟨rfl, rfl⟩
              go_wp2_with fail
              refine (taken_no _ _ _ _ HI.out.pl.po (by omega)).mono ?_
              rintro e w' ⟨rfl, m2, rfl⟩
              go_wp2
              go_ret
              exact ⟨rfl, below_drewN HI.out.bel _⟩

theorem plays_walk (pages : Int) (A : Option Addr) (len cap : Nat) (page : Int) (w : World) (h0 : (Lit.int .i64 pages).wf = true) (h1 : (Lit.int .i64 page).wf = true) (hD : Deeds w A len ∧ len ≤ maxLen) :
    Calls Try.prog 3 #[.int .i64 pages, .slice A len cap, .int .i64 page] w fun e w' => e = .returned (.bool true) ∧ Below w.heap.size w w' :=
  plays_some pages A len cap page w h0 h1 (by have := hD.2; unfold maxLen at this; omega) hD.1
end Go.Proofs.Ythbmheokbekdeaa
