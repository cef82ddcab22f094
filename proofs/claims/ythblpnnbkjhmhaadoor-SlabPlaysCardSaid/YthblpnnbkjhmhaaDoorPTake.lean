/- The contracts of the pool's TakeRun and Take. Condition: the pool's block is known. -/
import Derived.Test.YthblpnnbkjhmhaaDoorPFind
namespace Go.Proofs.YthblpnnbkjhmhaaDoor.Pool
open Go.RowKit

/-- A row, k places from i on being b. -/
def setR (t : Nat → Bool) (i k : Nat) (b : Bool) : Nat → Bool := fun j => if i ≤ j ∧ j < i + k then b else t j
theorem setR_zero (t : Nat → Bool) (i : Nat) (b : Bool) : setR t i 0 b = t := by
  funext j
  unfold setR
  rw [if_neg (by omega)]
theorem setR_succ (t : Nat → Bool) (i k : Nat) (b : Bool) : upd (setR t i k b) (i + k) b = setR t i (k + 1) b := by
  funext j
  unfold upd setR
  by_cases e : j = i + k
  · rw [if_pos e, if_pos (by omega)]
  · rw [if_neg e]
    by_cases h : i ≤ j ∧ j < i + k
    · rw [if_pos h, if_pos (by omega)]
    · rw [if_neg h, if_neg (by omega)]
theorem Pl.congr {w : World} {p n : Nat} {t t' : Nat → Bool} (h : Pl w p n t) (e : t = t') : Pl w p n t' := e ▸ h

section
variable {w : World}
theorem takeRun_arg (a : Option Addr) (k : Int) (hk : k < 1) :
    Calls Tryd.prog 41 #[.pointer a, .int .i64 k] w fun e w' => e = .returned (.tuple #[.int .i64 0, .int .i64 1]) ∧ w = w' := by
  go_enter Tryd.func41, Tryd.ntmps41
  go_wp2
  go_ret2
  exact ⟨rfl, rfl⟩
theorem takeRun_full (a : Option Addr) (n : Nat) (t : Nat → Bool) (k : Nat) (h : Po w a n t) (hk : 1 ≤ k) (hk2 : k ≤ 9223372036854775807) (hl : low n t k = none) :
    Calls Tryd.prog 41 #[.pointer a, .int .i64 k] w fun e w' => e = .returned (.tuple #[.int .i64 0, .int .i64 5]) ∧ ∃ m, w' = w.drewN m := by
  have hc := findRun_any a n t k h hk hk2
  have hv : frV n t k = 0 := by unfold frV; rw [hl]
  have hb : frB n t k = false := by unfold frB; rw [hl]; rfl
  rw [hv, hb] at hc
  clear hv hb h hl
  have HC := Lib.hid hc
  clear hc
  go_enter Tryd.func41, Tryd.ntmps41
  go_wp2_with fail
  refine HC.out.mono ?_
  rintro e w' ⟨rfl, m, rfl⟩
  go_wp2
  go_ret2
  exact ⟨rfl, _, rfl⟩
set_option maxRecDepth 100000 in
set_option maxHeartbeats 1000000 in
theorem takeRun_ok (p n : Nat) (t : Nat → Bool) (k i : Nat) (h : Pl w p n t) (hk : 1 ≤ k) (hl : low n t k = some i) :
    Calls Tryd.prog 41 #[.pointer (some ⟨p, 0, none⟩), .int .i64 k] w fun e w' => e = .returned (.tuple #[.int .i64 i, .int .i64 0]) ∧ Pl w' p n (setR t i k true) ∧ Only p w w' := by
  have hik := (low_spec hl).1.1
  have hs := h.small
  have hc := findRun_any _ n t k h.po hk (by omega)
  have hv : frV n t k = i := by unfold frV; rw [hl]
  have hb : frB n t k = true := by unfold frB; rw [hl]; rfl
  rw [hv, hb] at hc
  have HC := Lib.hid hc
  have H := Lib.hid h
  clear hv hb h hl hc
  go_enter Tryd.func41, Tryd.ntmps41
  go_wp2_with fail
  refine HC.out.mono ?_
  rintro e w' ⟨rfl, m, rfl⟩
  go_wp2
  go_loopg [8] k (fun g s wr => ∃ j : Nat, j + g = k ∧ s = .int .i64 (i + j : Nat) ∧ Hid (Pl wr p n (setR t i j true)) ∧ Hid (Only p w wr))
  case atStart => exact ⟨0, by omega, rfl, (H.out.drew _).congr (setR_zero _ _ _).symm, Only.drew _ _ _⟩
  case round =>
    obtain ⟨j, hjg, rfl, HP, HO⟩ := hrel
    cases gk with
    | zero =>
      obtain rfl : j = k := by omega
      have hjz : ¬ (((i + j : Nat) : Int) < (i : Int) + (j : Int)) := by omega
      go_wp2
      go_ret2
      exact ⟨rfl, HP.out, HO.out⟩
    | succ g =>
      have hjz : ((i + j : Nat) : Int) < (i : Int) + (k : Int) := by omega
      have h1 := HP.out.c1
      have h2 := HP.out.c2
      have f1 := HP.out.blk.frozen 1
      have f2 := HP.out.blk.frozen 2
      obtain ⟨q, hq⟩ : ∃ q, q = i + j := ⟨_, rfl⟩
      rw [← hq] at hjz ⊢
      have hqn : q < n := by omega
      have HQ := Lib.hid hq
      clear hq
      by_cases h64 : q < 64
      · have hd : (q : Int).tdiv 64 = 0 := by rw [Int.tdiv_eq_ediv_of_nonneg (by omega)]; omega
        have hb := m_or (setR t i j true) q
        have hw := wr0
        go_wp2_with fail
        go_region_with (go_at_call 47; refine (mask_any q (by omega)).mono ?_; rintro e w' ⟨rfl, rfl⟩)
        all_goals
          go_wp2
          go_roundg g
          case measure => omega
          case rel =>
            refine ⟨j + 1, by omega, by have := HQ.out; go_num, ((HP.out.drew 1).put0 q true hqn h64).congr (by rw [HQ.out]; exact setR_succ _ _ _ _), HO.out.trans ((Only.drew _ _ 1).trans (Only.setCellAt _ _ _ _))⟩
      · have hd : (q : Int).tdiv 64 = 1 := by rw [Int.tdiv_eq_ediv_of_nonneg (by omega)]; omega
        have hb := m_or (sh (setR t i j true) 64) q
        have hw := wr1
        go_wp2_with fail
        go_region_with (go_at_call 47; refine (mask_any q (by omega)).mono ?_; rintro e w' ⟨rfl, rfl⟩)
        all_goals
          go_wp2
          go_roundg g
          case measure => omega
          case rel =>
            refine ⟨j + 1, by omega, by have := HQ.out; go_num, ((HP.out.drew 1).put1 q true hqn (by omega)).congr (by rw [HQ.out]; exact setR_succ _ _ _ _), HO.out.trans ((Only.drew _ _ 1).trans (Only.setCellAt _ _ _ _))⟩

/-- The page, the error, and the pool behind taking k pages. -/
def trE (n : Nat) (t : Nat → Bool) (k : Int) : Int := if k < 1 then 1 else if (low n t k.toNat).isSome then 0 else 5
def trV (n : Nat) (t : Nat → Bool) (k : Int) : Int := if k < 1 then 0 else match low n t k.toNat with | some i => i | none => 0
def trT (n : Nat) (t : Nat → Bool) (k : Int) : Nat → Bool := if k < 1 then t else match low n t k.toNat with | some i => setR t i k.toNat true | none => t
theorem takeRun_any (p n : Nat) (t : Nat → Bool) (k : Int) (h : Pl w p n t) (hk2 : k ≤ 9223372036854775807) :
    Calls Tryd.prog 41 #[.pointer (some ⟨p, 0, none⟩), .int .i64 k] w fun e w' => e = .returned (.tuple #[.int .i64 (trV n t k), .int .i64 (trE n t k)]) ∧ Pl w' p n (trT n t k) ∧ Only p w w' := by
  unfold trV trE trT
  by_cases hk : k < 1
  · rw [if_pos hk, if_pos hk, if_pos hk]
    exact (takeRun_arg _ k hk).mono fun _ _ ⟨he, hw⟩ => by subst hw; exact ⟨he, h, Only.refl _ _⟩
  · rw [if_neg hk, if_neg hk, if_neg hk]
    obtain ⟨k, rfl⟩ := Int.eq_ofNat_of_zero_le (show 0 ≤ k by omega)
    rw [Int.toNat_natCast]
    cases hl : low n t k with
    | none => exact (takeRun_full _ n t k h.po (by omega) (by omega) hl).mono fun _ _ ⟨he, m, hw⟩ => by subst hw; exact ⟨he, h.drew m, Only.drew _ _ _⟩
    | some i => exact takeRun_ok p n t k i h (by omega) hl
theorem take_any (p n : Nat) (t : Nat → Bool) (h : Pl w p n t) :
    Calls Tryd.prog 29 #[.pointer (some ⟨p, 0, none⟩)] w fun e w' => e = .returned (.tuple #[.int .i64 (trV n t 1), .int .i64 (trE n t 1)]) ∧ Pl w' p n (trT n t 1) ∧ Only p w w' := by
  have HC := Lib.hid (takeRun_any p n t 1 h (by decide))
  clear h
  go_enter Tryd.func29, Tryd.ntmps29
  go_wp2_with fail
  refine HC.out.mono ?_
  rintro e w' ⟨rfl, hp, ho⟩
  have HP := Lib.hid hp
  have HO := Lib.hid ho
  clear hp ho
  go_wp2
  go_ret2
  exact ⟨rfl, HP.out, HO.out⟩
/-- Of a pool that has no page. -/
theorem low_zero (t : Nat → Bool) (k : Nat) (hk : 1 ≤ k) : low 0 t k = none := low_none fun i h => by have := h.1; omega
theorem takeRun_nobody (a : Option Addr) (t : Nat → Bool) (h : Po w a 0 t) :
    Calls Tryd.prog 41 #[.pointer a, .int .i64 1] w fun e w' => e = .returned (.tuple #[.int .i64 0, .int .i64 5]) ∧ ∃ m, w' = w.drewN m :=
  takeRun_full a 0 t 1 h (by decide) (by decide) (low_zero t 1 (by decide))
theorem take_nobody (a : Option Addr) (t : Nat → Bool) (h : Po w a 0 t) :
    Calls Tryd.prog 29 #[.pointer a] w fun e w' => e = .returned (.tuple #[.int .i64 0, .int .i64 5]) ∧ ∃ m, w' = w.drewN m := by
  have HC := Lib.hid (takeRun_nobody a t h)
  clear h
  go_enter Tryd.func29, Tryd.ntmps29
  go_wp2_with fail
  refine HC.out.mono ?_
  rintro e w' ⟨rfl, m, rfl⟩
  go_wp2
  go_ret2
  exact ⟨rfl, _, rfl⟩
end
end Go.Proofs.YthblpnnbkjhmhaaDoor.Pool
