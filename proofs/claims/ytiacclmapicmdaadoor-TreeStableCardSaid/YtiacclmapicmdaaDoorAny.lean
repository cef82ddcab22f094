/- The contracts of Load, Store and Fill for whatever arguments, over an arena that New made. Conditions: the table of widths lies in its block; the arena's blocks are known. -/
import Derived.Test.YtiacclmapicmdaaDoorShown
namespace Go.Proofs.YtiacclmapicmdaaDoor
open Go.RowKit

/-- The error of a number of that width at a place. -/
def accE (n : Nat) (at_ width : Int) : Int := if isW width = false then 1 else if at_ < 0 ∨ (n : Int) - width < at_ then 4 else 0
def ldV (n : Nat) (f : Nat → Int) (at_ width : Int) : Int := if accE n at_ width = 0 then ld f at_.toNat width.toNat else 0
def stF (n : Nat) (f : Nat → Int) (at_ v width : Int) : Nat → Int := if accE n at_ width = 0 then st f at_.toNat v width.toNat else f

theorem accE_ok {n : Nat} {at_ width : Int} (h : accE n at_ width = 0) : isW width = true ∧ 0 ≤ at_ ∧ at_ + width ≤ n := by
  unfold accE at h
  split at h
  · cases h
  · rename_i hw
    split at h
    · cases h
    · exact ⟨by simpa using hw, by omega, by omega⟩
theorem accE_mk {n : Nat} {at_ width : Int} (h : isW width = true) (h0 : 0 ≤ at_) (h1 : at_ + width ≤ n) : accE n at_ width = 0 := by
  unfold accE
  rw [if_neg (by simp [h]), if_neg (by omega)]
theorem accE_bd (n : Nat) (at_ width : Int) : accE n at_ width = 0 ∨ accE n at_ width = 1 ∨ accE n at_ width = 4 := by
  unfold accE; split
  · simp
  · split <;> simp

section
variable {w : World}
theorem load_any (p g n : Nat) (f : Nat → Int) (at_ width : Int) (hT : Tab w) (h : Ar w p g n f) :
    Calls Tryd.prog 26 #[.pointer (some ⟨p, 0, none⟩), .int .i64 at_, .int .i64 width] w fun e w' => e = .returned (.tuple #[.int .u64 (ldV n f at_ width), .int .i64 (accE n at_ width)]) ∧ w = w' := by
  by_cases h0 : accE n at_ width = 0
  · obtain ⟨hW, ha, hb⟩ := accE_ok h0
    have hw := isW_bd hW
    obtain ⟨a, rfl⟩ := Int.eq_ofNat_of_zero_le ha
    obtain ⟨k, rfl⟩ := Int.eq_ofNat_of_zero_le (Int.le_of_lt hw.1)
    rw [h0]
    have e : ldV n f a k = ld f a k := by unfold ldV; rw [if_pos h0]; rfl
    rw [e]
    exact load_ok p g n f a k hT h hW (by omega)
  · have e : ldV n f at_ width = 0 := by unfold ldV; rw [if_neg h0]
    rw [e]
    cases hW : isW width with
    | false =>
      have e1 : accE n at_ width = 1 := by unfold accE; rw [if_pos hW]
      rw [e1]
      exact load_arg _ at_ width hT hW
    | true =>
      have hf : at_ < 0 ∨ (n : Int) - width < at_ := by
        refine Classical.byContradiction fun hn => h0 (accE_mk hW ?_ ?_) <;> omega
      have e1 : accE n at_ width = 4 := by unfold accE; rw [if_neg (by simp [hW]), if_pos hf]
      rw [e1]
      exact load_far _ _ n at_ width hT h.mem h.small hW hf

theorem store_any (p g n : Nat) (f : Nat → Int) (at_ width v : Int) (hT : Tab w) (h : Ar w p g n f) (hv : 0 ≤ v) :
    Calls Tryd.prog 27 #[.pointer (some ⟨p, 0, none⟩), .int .i64 at_, .int .i64 width, .int .u64 v] w fun e w' => e = .returned (.int .i64 (accE n at_ width)) ∧ Ar w' p g n (stF n f at_ v width) ∧ Only g w w' := by
  by_cases h0 : accE n at_ width = 0
  · obtain ⟨hW, ha, hb⟩ := accE_ok h0
    have hw := isW_bd hW
    obtain ⟨a, rfl⟩ := Int.eq_ofNat_of_zero_le ha
    obtain ⟨k, rfl⟩ := Int.eq_ofNat_of_zero_le (Int.le_of_lt hw.1)
    rw [h0]
    have e : stF n f a v k = st f a v k := by unfold stF; rw [if_pos h0]; rfl
    rw [e]
    exact store_ok p g n f a k v hT h hv hW (by omega)
  · have e : stF n f at_ v width = f := by unfold stF; rw [if_neg h0]
    rw [e]
    cases hW : isW width with
    | false =>
      have e1 : accE n at_ width = 1 := by unfold accE; rw [if_pos hW]
      rw [e1]
      exact (store_arg _ at_ width v hT hW).mono fun _ _ ⟨he, hw⟩ => by subst hw; exact ⟨he, h, Only.refl _ _⟩
    | true =>
      have hf : at_ < 0 ∨ (n : Int) - width < at_ := by
        refine Classical.byContradiction fun hn => h0 (accE_mk hW ?_ ?_) <;> omega
      have e1 : accE n at_ width = 4 := by unfold accE; rw [if_neg (by simp [hW]), if_pos hf]
      rw [e1]
      exact (store_far _ _ n at_ width v hT h.mem h.small hW hf).mono fun _ _ ⟨he, hw⟩ => by subst hw; exact ⟨he, h, Only.refl _ _⟩

/-- A memory behind a fill, whatever its arguments. -/
def flF (n : Nat) (f : Nat → Int) (at_ k c : Int) : Nat → Int := if fits n at_ k = 0 then fl f at_.toNat c k.toNat else f
theorem fits_ok {n : Nat} {at_ k : Int} (h : fits n at_ k = 0) : 0 ≤ k ∧ 0 ≤ at_ ∧ at_ + k ≤ n := by
  unfold fits at h
  split at h
  · cases h
  · split at h
    · cases h
    · omega
theorem fits_mk {n : Nat} {at_ k : Int} (h : 0 ≤ k) (h0 : 0 ≤ at_) (h1 : at_ + k ≤ n) : fits n at_ k = 0 := by
  unfold fits
  rw [if_neg (by omega), if_neg (by omega)]
theorem fits_bd (n : Nat) (at_ k : Int) : fits n at_ k = 0 ∨ fits n at_ k = 1 ∨ fits n at_ k = 4 := by
  unfold fits; split
  · simp
  · split <;> simp

theorem fill_any (p g n : Nat) (f : Nat → Int) (at_ k c : Int) (h : Ar w p g n f) (hk : k ≤ 9223372036854775807) (hc : 0 ≤ c ∧ c ≤ 255) :
    Calls Tryd.prog 37 #[.pointer (some ⟨p, 0, none⟩), .int .i64 at_, .int .i64 k, .int .u8 c] w fun e w' => e = .returned (.int .i64 (fits n at_ k)) ∧ Ar w' p g n (flF n f at_ k c) ∧ Only g w w' := by
  by_cases h0 : fits n at_ k = 0
  · obtain ⟨hk0, ha, hb⟩ := fits_ok h0
    obtain ⟨a, rfl⟩ := Int.eq_ofNat_of_zero_le ha
    obtain ⟨k, rfl⟩ := Int.eq_ofNat_of_zero_le hk0
    rw [h0]
    have e : flF n f a k c = fl f a c k := by unfold flF; rw [if_pos h0]; rfl
    rw [e]
    exact fill_ok p g n f a k c h hc (by omega)
  · have e : flF n f at_ k c = f := by unfold flF; rw [if_neg h0]
    rw [e]
    by_cases hk0 : k < 0
    · have e1 : fits n at_ k = 1 := by unfold fits; rw [if_pos hk0]
      rw [e1]
      exact (fill_neg _ at_ k c hk0).mono fun _ _ ⟨he, hw⟩ => by subst hw; exact ⟨he, h, Only.refl _ _⟩
    · have hf : at_ < 0 ∨ (n : Int) - k < at_ := by
        refine Classical.byContradiction fun hn => h0 (fits_mk ?_ ?_ ?_) <;> omega
      have e1 : fits n at_ k = 4 := by unfold fits; rw [if_neg hk0, if_pos hf]
      rw [e1]
      exact (fill_far _ _ n at_ k c h.mem h.small (by omega) hk hf).mono fun _ _ ⟨he, hw⟩ => by subst hw; exact ⟨he, h, Only.refl _ _⟩

/-- All bytes. -/
theorem bytes_all (p g N : Nat) (f : Nat → Int) (h : Ar w p g N f) :
    Calls Tryd.prog 28 #[.pointer (some ⟨p, 0, none⟩), .int .i64 0, .int .i64 N] w fun e w' =>
      e = .returned (.tuple #[.slice (some ⟨w.heap.size, 0, none⟩) N N, .int .i64 0]) ∧ Blk w' w.heap.size 5 (row N f) ∧ Below w.heap.size w w' := by
  refine (bytes_ok p g N f 0 N h (by omega)).mono ?_
  rintro e w' ⟨rfl, hb, hl⟩
  exact ⟨rfl, by rwa [row_congr (h := f) (fun i _ => by rw [Nat.zero_add])] at hb, hl⟩
/-- string(b), b whole. -/
theorem run_string_all (g N c : Nat) (f : Nat → Int) (hb : Bytes f) (h : Blk w g 5 (row N f)) :
    (convert 57 9 (.slice (some ⟨g, 0, none⟩) N c)).run Tryd.prog w = .ok (.string (strOf N f)) w := by
  have := run_string (w := w) g 0 N N c f hb h (by omega)
  rwa [strOf_congr (h := f) (fun i _ => by rw [Nat.zero_add])] at this
end
end Go.Proofs.YtiacclmapicmdaaDoor
