/- The lowest run of free pages, and the contract of the pool's findRun. Condition: the pool's block is known. -/
import Derived.Test.YthblpnnbkjhmhaaDoorPGive
import Derived.Deep.LoopGhost
import Derived.WalkMore
import Derived.ScopeJumps
namespace Go.Proofs.YthblpnnbkjhmhaaDoor.Pool
open Go.RowKit

/-- k pages from i on are pages, and free. -/
def IsRun (n : Nat) (t : Nat → Bool) (k i : Nat) : Prop := i + k ≤ n ∧ ∀ j, i ≤ j → j < i + k → t j = false
def runB (t : Nat → Bool) (k i : Nat) : Bool := (List.range k).all fun j => !t (i + j)
theorem runB_iff {n : Nat} {t : Nat → Bool} {k i : Nat} (h : i + k ≤ n) : runB t k i = true ↔ IsRun n t k i := by
  unfold runB IsRun
  rw [List.all_eq_true]
  constructor
  · intro hh
    refine ⟨h, fun j h1 h2 => ?_⟩
    have := hh (j - i) (by simp; omega)
    rw [show i + (j - i) = j by omega] at this
    simpa using this
  · rintro ⟨_, hh⟩ j hj
    have := hh (i + j) (by omega) (by simp at hj; omega)
    simpa using this
/-- The lowest run. -/
def low (n : Nat) (t : Nat → Bool) (k : Nat) : Option Nat := (List.range (n + 1 - k)).find? (runB t k)
theorem low_some {n : Nat} {t : Nat → Bool} {k i : Nat} (h : IsRun n t k i) (hl : ∀ i', i' < i → ¬ IsRun n t k i') : low n t k = some i := by
  have h1 := h.1
  unfold low
  rw [List.find?_range_eq_some]
  refine ⟨(runB_iff h1).2 h, by simp; omega, fun j hj => ?_⟩
  have := hl j hj
  rw [← runB_iff (by omega)] at this
  simpa using this
theorem low_none {n : Nat} {t : Nat → Bool} {k : Nat} (hl : ∀ i, ¬ IsRun n t k i) : low n t k = none := by
  unfold low
  rw [List.find?_eq_none]
  intro i hi
  have := hl i
  rw [← runB_iff (by simp at hi; omega)] at this
  exact this
theorem low_spec {n : Nat} {t : Nat → Bool} {k i : Nat} (h : low n t k = some i) : IsRun n t k i ∧ ∀ i', i' < i → ¬ IsRun n t k i' := by
  unfold low at h
  rw [List.find?_range_eq_some] at h
  obtain ⟨h1, h2, h3⟩ := h
  simp at h2
  refine ⟨(runB_iff (by omega)).1 h1, fun j hj hr => ?_⟩
  have := h3 j hj
  rw [(runB_iff (by omega)).2 hr] at this
  cases this
theorem low_absent {n : Nat} {t : Nat → Bool} {k : Nat} (h : low n t k = none) (i : Nat) : ¬ IsRun n t k i := by
  intro hr
  unfold low at h
  rw [List.find?_eq_none] at h
  have := hr.1
  exact h i (by simp; omega) ((runB_iff hr.1).2 hr)
def frV (n : Nat) (t : Nat → Bool) (k : Nat) : Int := match low n t k with | some i => i | none => 0
def frB (n : Nat) (t : Nat → Bool) (k : Nat) : Bool := (low n t k).isSome

section
variable {w : World}
theorem taken_at (a : Option Addr) (n : Nat) (t : Nat → Bool) (k : Nat) (b : Bool) (h : Po w a n t) (hb : t k = b) :
    Calls Tryd.prog 46 #[.pointer a, .int .i64 k] w fun e w' => e = .returned (.bool b) ∧ ∃ m, w' = w.drewN m := by
  have := taken_any a n t k h
  rwa [show tkB t (k : Int) = b by simp [tkB, hb]] at this
set_option maxRecDepth 100000 in
theorem findRun_any (a : Option Addr) (n : Nat) (t : Nat → Bool) (k : Nat) (h : Po w a n t) (hk : 1 ≤ k) (hk2 : k ≤ 9223372036854775807) :
    Calls Tryd.prog 49 #[.pointer a, .int .i64 k] w fun e w' => e = .returned (.tuple #[.int .i64 (frV n t k), .bool (frB n t k)]) ∧ ∃ m, w' = w.drewN m := by
  have hs := h.small
  have H := Lib.hid h
  clear h
  go_enter Tryd.func49, Tryd.ntmps49
  go_wp2
  go_step3
  go_wp2
  go_step3
  go_wp2
  go_loopg [6] (n + 1) (fun g s wr => ∃ i m : Nat, i + g = n + 1 ∧ s = .int .i64 i ∧ Hid (∀ i', i' < i → ¬ IsRun n t k i') ∧ wr = w.drewN m)
  case atStart => exact ⟨0, 0, by omega, rfl, fun i' hi => by omega, rfl⟩
  case round =>
    obtain ⟨i, m, hig, rfl, HI, rfl⟩ := hrel
    by_cases hlt : i + k ≤ n
    · have hd : decide ((i : Int) ≤ (n : Int) - (k : Int)) = true := by simp; omega
      go_wp2_with (go_at_call 52; refine (len_any _ _ _ (H.out.drew _)).mono ?_; rintro e w' ⟨rfl, rfl⟩)
      go_loopg [6, 7] k (fun g s6 s wr => ∃ j m : Nat, j + g = i + k ∧ i ≤ j ∧ s6 = .int .i64 i ∧ s = .int .i64 j ∧ Hid (∀ x, i ≤ x → x < j → t x = false) ∧ wr = w.drewN m)
      case atStart => exact ⟨i, m, by omega, by omega, rfl, rfl, fun x h1 h2 => by omega, rfl⟩
      case round =>
        obtain ⟨j, m, hjg, hij, rfl, rfl, HJ, rfl⟩ := hrel
        cases gk with
        | zero =>
          have hjz : ¬ ((j : Int) < (i : Int) + (k : Int)) := by omega
          go_wp2
          (try rw [Exit.noGoto_ret])
          go_ret2
          have hr : IsRun n t k i := ⟨hlt, fun x h1 h2 => HJ.out x h1 (by omega)⟩
          have e := low_some hr HI.out
          refine ⟨?_, _, rfl⟩
          unfold frV frB
          rw [e]
          rfl
        | succ g =>
          have hjz : (j : Int) < (i : Int) + (k : Int) := by omega
          cases ht : t j with
          | true =>
            have HT := Lib.hid ht
            clear ht
            go_wp2_with (go_at_call 46; refine (taken_at _ _ _ _ true (H.out.drew _) HT.out).mono ?_; rintro e w' ⟨rfl, m2, rfl⟩)
            go_roundg (n - j)
            case measure => omega
            case rel =>
              refine ⟨j + 1, _, by omega, by go_num, fun i' hi' hr => ?_, rfl⟩
              by_cases hii : i' < i
              · exact HI.out i' hii hr
              · have := hr.2 j (by omega) (by omega)
                rw [HT.out] at this
                cases this
          | false =>
            have HT := Lib.hid ht
            clear ht
            go_wp2_with (go_at_call 46; refine (taken_at _ _ _ _ false (H.out.drew _) HT.out).mono ?_; rintro e w' ⟨rfl, m2, rfl⟩)
            go_roundg g
            case measure => omega
            case rel =>
              refine ⟨j + 1, _, by omega, by omega, rfl, by go_num, fun x h1 h2 => ?_, rfl⟩
              by_cases hx : x = j
              · rw [hx]; exact HT.out
              · exact HJ.out x h1 (by omega)
    · have hd : decide ((i : Int) ≤ (n : Int) - (k : Int)) = false := by simp; omega
      go_wp2_with (go_at_call 52; refine (len_any _ _ _ (H.out.drew _)).mono ?_; rintro e w' ⟨rfl, rfl⟩)
      (try rw [Exit.noGoto_ret])
      go_ret2
      have e := low_none (n := n) (t := t) (k := k) fun i' hr => by
        by_cases hii : i' < i
        · exact HI.out i' hii hr
        · have := hr.1
          omega
      refine ⟨?_, _, rfl⟩
      unfold frV frB
      rw [e]
      rfl
end
end Go.Proofs.YthblpnnbkjhmhaaDoor.Pool
