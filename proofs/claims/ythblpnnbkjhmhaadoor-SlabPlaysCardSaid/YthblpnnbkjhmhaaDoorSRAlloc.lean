/- The document's answer for the slab: Alloc. Condition: its blocks are known. -/
import Derived.Test.YthblpnnbkjhmhaaDoorSRFreeW
namespace Go.Proofs.YthblpnnbkjhmhaaDoor
open Go.RowKit
open Pool (cnt upd cnt_congr)

/-- Looking from the top down to i, at is the lowest that was met (0: none). -/
def Scan (P : Nat → Bool) (n i at_ : Nat) : Prop := (at_ = 0 ∧ ∀ j, i < j → j < n → P j = false) ∨ (i < at_ ∧ at_ < n ∧ P at_ = true ∧ ∀ j, i < j → j < at_ → P j = false)
theorem Scan.start (P : Nat → Bool) (n : Nat) : Scan P n (n - 1) 0 := .inl ⟨rfl, fun j h1 h2 => by omega⟩
theorem Scan.yes {P : Nat → Bool} {n i at_ : Nat} (_h : Scan P n (i + 1) at_) (hi : i + 1 < n) (hp : P (i + 1) = true) : Scan P n i (i + 1) := .inr ⟨Nat.lt_succ_self i, hi, hp, fun j h1 h2 => by omega⟩
theorem Scan.no {P : Nat → Bool} {n i at_ : Nat} (h : Scan P n (i + 1) at_) (hp : P (i + 1) = false) : Scan P n i at_ := by
  have key : ∀ j, i < j → j = i + 1 ∨ i + 1 < j := fun j h => by omega
  rcases h with ⟨h1, h2⟩ | ⟨h1, h2, h3, h4⟩
  · refine .inl ⟨h1, fun j h3 h4 => ?_⟩
    rcases key j h3 with rfl | h5
    · exact hp
    · exact h2 j h5 h4
  · refine .inr ⟨by omega, h2, h3, fun j h5 h6 => ?_⟩
    rcases key j h5 with rfl | h7
    · exact hp
    · exact h4 j h7 h6
theorem Scan.no' {P : Nat → Bool} {n i at_ : Nat} (h : Scan P n i at_) (hi : 0 < i) (hp : P i = false) : Scan P n (i - 1) at_ := by
  obtain ⟨j, rfl⟩ : ∃ j, i = j + 1 := ⟨i - 1, by omega⟩
  exact h.no hp
theorem Scan.yes' {P : Nat → Bool} {n i at_ : Nat} (h : Scan P n i at_) (hi : 0 < i) (hin : i < n) (hp : P i = true) : Scan P n (i - 1) i := by
  obtain ⟨j, rfl⟩ : ∃ j, i = j + 1 := ⟨i - 1, by omega⟩
  exact h.yes hin hp
section
variable {n : Nat} {s : St} {T : Nat → List Nat} {size : Int}
theorem Scan.pgOf {c at_ : Nat} (hI : Inv0 n s) (hc : c ≠ 0) (h : Scan (has s c) n 0 at_) : pgOf n s c = if at_ = 0 then none else some at_ := by
  have h0 : has s c 0 = false := by
    have := hI.page0
    simp [has, this]
    intro e
    exact absurd e.symm hc
  unfold Go.Proofs.YthblpnnbkjhmhaaDoor.pgOf
  rcases h with ⟨h1, h2⟩ | ⟨h1, h2, h3, h4⟩
  · rw [if_pos h1, List.find?_range_eq_none]
    intro j hj
    rcases Nat.eq_zero_or_pos j with rfl | h5
    · simp [h0]
    · simp [h2 j h5 hj]
  · rw [if_neg (by omega), List.find?_range_eq_some]
    refine ⟨h3, by simpa using h2, fun j hj => ?_⟩
    rcases Nat.eq_zero_or_pos j with rfl | h5
    · simp [h0]
    · simp [h4 j h5 hj]
theorem Scan.pgNew {at_ : Nat} (h : Scan (fun i => decide ((s i).1 = 0)) n 0 at_) : pgNew n s = if at_ = 0 then none else some at_ := by
  unfold Go.Proofs.YthblpnnbkjhmhaaDoor.pgNew
  rcases h with ⟨h1, h2⟩ | ⟨h1, h2, h3, h4⟩
  · rw [if_pos h1, List.find?_range_eq_none]
    intro j hj
    rcases Nat.eq_zero_or_pos j with rfl | h5
    · simp
    · have := h2 j h5 hj
      simp at this
      simp [this]
  · rw [if_neg (by omega), List.find?_range_eq_some]
    simp at h3
    refine ⟨by simp [h3]; omega, by simpa using h2, fun j hj => ?_⟩
    rcases Nat.eq_zero_or_pos j with rfl | h5
    · simp
    · have := h4 j h5 hj
      simp at this
      simp [this]
/-- The taken lists behind a taking. -/
theorem take_T (hT : Tl s T) (hI : Inv n s) {k a : Nat} {l : List Nat} {s1 : St} (hg : Got n s size k a l s1) : Tl (alS n s size) (updT T k (T k ++ [a])) := by
  have hI' : Inv0 n (alS n s size) := by rw [hg.st]; exact inv0_pop hg.inv hg.at_
  refine ⟨fun i b => ?_, fun i => ?_, fun i => ?_⟩
  · by_cases e : i = k
    · subst e
      rw [updT_same, List.mem_append, hT.mem]
      constructor
      · rintro (h | h)
        · exact (hg.keep h).1
        · simp at h; subst h; exact hg.tkn
      · intro h
        rcases hg.back h with h1 | h1
        · exact .inl h1
        · exact .inr (by simp [h1])
    · rw [updT_other _ _ e, hT.mem]
      constructor
      · intro h; exact (hg.keep h).1
      · intro h
        rcases hg.back h with h1 | rfl
        · exact h1
        · have h2 := (isB_tkn hI' h).2.2
          have h3 := hg.page.1
          exact absurd (by omega) e
  · by_cases e : i = k
    · subst e
      rw [updT_same, List.nodup_append]
      refine ⟨hT.once i, by simp, fun x hx y hy => ?_⟩
      simp at hy
      subst hy
      exact hg.new hI ((hT.mem i x).1 hx)
    · rw [updT_other _ _ e]; exact hT.once i
  · by_cases e : i = k
    · subst e
      rw [updT_same, List.length_append, hg.cntk, hT.len]
      rcases hg.from_ with ⟨_, h1⟩ | ⟨h0, h1, _⟩
      · rw [h1]; rfl
      · have h2 : cnt (tk s i) 32 = 0 := cnt_none fun j _ => by unfold tk; rw [h0]; simp
        have h3 : cnt (tk s1 i) 32 = 0 := cnt_none fun j _ => by
          unfold tk
          rw [h1, asg_at]
          by_cases hj : j < 512 / clsOf size
          · simp [mem_blks.2 ⟨j, hj, rfl⟩]
          · simp [hj]
        rw [h2, h3]
        rfl
    · rw [updT_other _ _ e, hT.len]
      unfold tk
      rw [hg.other e]
theorem T_nil (hT : Tl s T) {k : Nat} (h : (s k).1 = 0) : T k = [] := by
  cases hl : T k with
  | nil => rfl
  | cons a l =>
    have := (hT.mem k a).1 (by rw [hl]; simp)
    have := this.1
    rw [h, blks_zero] at this
    cases this
theorem updT_nil {k : Nat} (h : T k = []) : updT T k [] = T := by
  funext i
  by_cases e : i = k
  · subst e; rw [updT_same, h]
  · rw [updT_other _ _ e]
end
theorem row_none1 (w : World) (B : Nat) (hB : B ≤ w.heap.size) : (w.alloc (.cells #[] 3)).ownsRow B 3 1 (.slice (some ⟨w.heap.size, 0, none⟩) 0 0) 0 (ints []) :=
  ⟨rfl, .inr ⟨w.heap.size, 0, #[], rfl, hB, heap_alloc_new w _, Nat.le_refl _, by unfold maxLen; omega, rfl, rfl⟩⟩
theorem sg_one (w : World) (y : Nat) : Sg (w.alloc (.cells #[.int .i64 (y : Nat)] 3)) ⟨0, w.heap.size + 1⟩ (some ⟨w.heap.size, 0, none⟩) [y] := fun j u hu => by
  match j, hu with
  | 0, hu =>
    simp at hu
    subst hu
    exact ⟨w.heap.size, 0, rfl, ⟨Nat.zero_le _, by simp⟩, by simp, by simp⟩
end Go.Proofs.YthblpnnbkjhmhaaDoor
