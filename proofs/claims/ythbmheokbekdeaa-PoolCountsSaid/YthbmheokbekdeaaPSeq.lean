/- Pools whose first pages are taken; contracts of Take, TakeRun(1) and Give over them. Condition: the pool's block is known. -/
import Derived.Test.YthbmheokbekdeaaPShown
import Derived.OpenShut
namespace Go.Proofs.Ythbmheokbekdeaa
open Go.RowKit

/-- The first i pages are taken. -/
def ini (i : Nat) : Nat → Bool := fun j => decide (j < i)
theorem ini_zero : ini 0 = fun _ => false := by funext j; simp [ini]
theorem low_ini {n i : Nat} (h : i < n) : low n (ini i) 1 = some i := by
  refine low_some ⟨h, fun j h1 h2 => ?_⟩ fun i' hi' hr => ?_
  · obtain rfl : j = i := by omega
    simp [ini]
  · have := hr.2 i' (by omega) (by omega)
    simp [ini] at this
    omega
theorem low_full {n i : Nat} (h : n ≤ i) : low n (ini i) 1 = none := by
  refine low_none fun i' hr => ?_
  have h1 := hr.1
  have := hr.2 i' (by omega) (by omega)
  simp [ini] at this
  omega
theorem setR_ini (i : Nat) : setR (ini i) i 1 true = ini (i + 1) := by
  funext j
  unfold setR ini
  by_cases h : i ≤ j ∧ j < i + 1
  · rw [if_pos h]; simp; omega
  · rw [if_neg h]
    by_cases h2 : j < i
    · simp [h2]; omega
    · simp [h2]; omega
theorem cnt_ini (i : Nat) : ∀ n, n ≤ i → cnt (ini i) n = n
  | 0, _ => rfl
  | n + 1, h => by
    have h2 : ini i n = true := by simp [ini]; omega
    unfold cnt
    rw [cnt_ini i n (by omega), h2]
    rfl
theorem free_ini {n i : Nat} (h : i ≤ n) : free n (ini i) = n - i := by
  unfold free
  have e : cnt (ini i) (i + (n - i)) = cnt (ini i) i := cnt_off (fun j hj => by simp [ini]; omega) _
  rw [show i + (n - i) = n by omega] at e
  rw [e, cnt_ini i i (Nat.le_refl _)]
/-- A pool that is full but for one page. -/
theorem low_hole {n k : Nat} (h : k < n) : low n (upd (ini n) k false) 1 = some k := by
  refine low_some ⟨h, fun j h1 h2 => ?_⟩ fun i' hi' hr => ?_
  · obtain rfl : j = k := by omega
    simp [upd]
  · have := hr.2 i' (by omega) (by omega)
    unfold upd ini at this
    rw [if_neg (by omega)] at this
    simp at this
    omega
theorem setR_hole {n k : Nat} (h : k < n) : setR (upd (ini n) k false) k 1 true = ini n := by
  funext j
  unfold setR upd ini
  by_cases e : j = k
  · rw [if_pos (by omega)]; simp; omega
  · rw [if_neg (by omega), if_neg e]

section
variable {w : World}
theorem take_ini (p n i : Nat) (h : Pl w p n (ini i)) (hi : i < n) :
    Calls Try.prog 11 #[.pointer (some ⟨p, 0, none⟩)] w fun e w' => e = .returned (.tuple #[.int .i64 i, .int .i64 0]) ∧ Pl w' p n (ini (i + 1)) ∧ Only p w w' := by
  have := take_any p n (ini i) h
  have e1 : trV n (ini i) 1 = i := by unfold trV; rw [if_neg (by decide)]; show (match low n (ini i) 1 with | some i => (i : Int) | none => 0) = _; rw [low_ini hi]
  have e2 : trE n (ini i) 1 = 0 := by unfold trE; rw [if_neg (by decide)]; show (if (low n (ini i) 1).isSome then _ else _) = _; rw [low_ini hi]; rfl
  have e3 : trT n (ini i) 1 = ini (i + 1) := by unfold trT; rw [if_neg (by decide)]; show (match low n (ini i) 1 with | some i' => setR (ini i) i' 1 true | none => ini i) = _; rw [low_ini hi]; exact setR_ini i
  rwa [e1, e2, e3] at this
theorem takeRun_ini (p n i : Nat) (h : Pl w p n (ini i)) (hi : i < n) :
    Calls Try.prog 13 #[.pointer (some ⟨p, 0, none⟩), .int .i64 1] w fun e w' => e = .returned (.tuple #[.int .i64 i, .int .i64 0]) ∧ Pl w' p n (ini (i + 1)) ∧ Only p w w' := by
  refine (takeRun_ok p n (ini i) 1 i h (by decide) (low_ini hi)).mono ?_
  rintro e w' ⟨rfl, hp, ho⟩
  exact ⟨rfl, hp.congr (setR_ini i), ho⟩
theorem takeRun_out (p n : Nat) (h : Pl w p n (ini n)) :
    Calls Try.prog 13 #[.pointer (some ⟨p, 0, none⟩), .int .i64 1] w fun e w' => e = .returned (.tuple #[.int .i64 0, .int .i64 5]) ∧ Pl w' p n (ini n) ∧ Only p w w' := by
  refine (takeRun_full _ n (ini n) 1 h.po (by decide) (by decide) (low_full (Nat.le_refl _))).mono ?_
  rintro e w' ⟨rfl, m, rfl⟩
  exact ⟨rfl, h.drew m, Only.drew _ _ _⟩
theorem take_out (p n : Nat) (h : Pl w p n (ini n)) :
    Calls Try.prog 11 #[.pointer (some ⟨p, 0, none⟩)] w fun e w' => e = .returned (.tuple #[.int .i64 0, .int .i64 5]) ∧ Pl w' p n (ini n) ∧ Only p w w' := by
  have HC := Lib.hid (takeRun_out p n h)
  clear h
  go_enter Try.func11, Try.ntmps11
  go_wp2_with fail
  refine HC.out.mono ?_
  rintro e w' ⟨rfl, hp, ho⟩
  have HP := Lib.hid hp
  have HO := Lib.hid ho
  clear hp ho
  go_wp2
  go_ret2
  exact ⟨rfl, HP.out, HO.out⟩
theorem takeRun_hole (p n k : Nat) (h : Pl w p n (upd (ini n) k false)) (hk : k < n) :
    Calls Try.prog 13 #[.pointer (some ⟨p, 0, none⟩), .int .i64 1] w fun e w' => e = .returned (.tuple #[.int .i64 k, .int .i64 0]) ∧ Pl w' p n (ini n) ∧ Only p w w' := by
  refine (takeRun_ok p n _ 1 k h (by decide) (low_hole hk)).mono ?_
  rintro e w' ⟨rfl, hp, ho⟩
  exact ⟨rfl, hp.congr (setR_hole hk), ho⟩
theorem free_ini_any (p n i : Nat) (h : Pl w p n (ini i)) (hi : i ≤ n) :
    Calls Try.prog 16 #[.pointer (some ⟨p, 0, none⟩)] w fun e w' => e = .returned (.int .i64 (n - i : Nat)) ∧ w = w' := by
  have := free_any _ n (ini i) h.po
  rwa [free_ini hi] at this
end
end Go.Proofs.Ythbmheokbekdeaa
