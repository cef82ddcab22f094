/- What the slab's steps make of its state: from the words of memory to the words of the state. No condition. -/
import Derived.Test.YthblpnnbkjhmhaaDoorSPage
namespace Go.Proofs.YthblpnnbkjhmhaaDoor
open Go.RowKit
open Pool (num cnt upd Pl low setR num_testBit)

theorem upd_same (f : Nat → Bool) (j : Nat) (b : Bool) : upd f j b j = b := by simp [upd]
theorem upd_other (f : Nat → Bool) {j k : Nat} (b : Bool) (h : k ≠ j) : upd f j b k = f k := by simp [upd, h]
theorem num_or32 (f : Nat → Bool) (j : Nat) (hj : j < 32) : num f 32 ||| bt j = num (upd f j true) 32 := by
  apply Nat.eq_of_testBit_eq
  intro k
  unfold bt
  rw [Nat.testBit_or, num_testBit, num_testBit, Nat.testBit_two_pow]
  by_cases e : j = k
  · subst e; simp [upd_same, hj]
  · rw [upd_other _ _ (fun h => e h.symm)]; simp [e]
theorem num_andNot32 (f : Nat → Bool) (j : Nat) (hj : j < 32) : num f 32 &&& (4294967295 - bt j) = num (upd f j false) 32 := by
  apply Nat.eq_of_testBit_eq
  intro k
  have h1 : 4294967295 - bt j = 2 ^ 32 - (bt j + 1) := by omega
  rw [Nat.testBit_and, num_testBit, num_testBit, h1, Nat.testBit_two_pow_sub_succ (bt_lt hj)]
  unfold bt
  rw [Nat.testBit_two_pow]
  by_cases e : j = k
  · subst e; simp [upd_same]
  · rw [upd_other _ _ (fun h => e h.symm)]
    by_cases hk : k < 32 <;> simp [e, hk]
theorem num_lt32 (f : Nat → Bool) : num f 32 < 4294967296 := Pool.num_lt f 32
theorem num_zero32 {f : Nat → Bool} (h : ∀ j, j < 32 → f j = false) : num f 32 = 0 := by
  apply Nat.eq_of_testBit_eq
  intro k
  rw [num_testBit]
  by_cases hk : k < 32
  · simp [h k hk]
  · simp [hk]

/-- What is kept of the pages. -/
def rawOf (s : St) : Rp := fun i => ((s i).1, num (tk s i) 32, head0 (s i).2)
/-- A slab of n pages, s, over the bytes f. -/
structure Sl (w : World) (L : Pt) (n : Nat) (s : St) (f : Nat → Int) : Prop where
  raw : Rw w L n (rawOf s) f (tkp s n)
  inv : Inv n s
  lnk : ∀ i, Link f (s i).2

theorem sep {i c a b : Nat} (_hC : IsC c) (ha : a ∈ blks i c) (hb : b ∈ blks i c) (hne : a ≠ b) : a + c ≤ b ∨ b + c ≤ a := by
  obtain ⟨j, hj, rfl⟩ := mem_blks.1 ha
  obtain ⟨k, hk, rfl⟩ := mem_blks.1 hb
  have : j ≠ k := by rintro rfl; exact hne rfl
  unfold blk
  rcases Nat.lt_or_gt_of_ne this with h | h
  · have := Nat.mul_le_mul_right c h
    rw [Nat.succ_mul] at this
    omega
  · have := Nat.mul_le_mul_right c h
    rw [Nat.succ_mul] at this
    omega
theorem blks_zero (i : Nat) : blks i 0 = [] := rfl
/-- Blocks of two pages, or two blocks of one. -/
theorem far {s : St} {n i k a b : Nat} (hI : Inv0 n s) (ha : a ∈ blks i (s i).1) (hb : b ∈ blks k (s k).1) (hne : a ≠ b) : a + (s i).1 ≤ b ∨ b + (s k).1 ≤ a := by
  have hi : IsC (s i).1 := by
    rcases hI.cls i with h | h
    · rw [h, blks_zero] at ha; cases ha
    · exact h
  have hk : IsC (s k).1 := by
    rcases hI.cls k with h | h
    · rw [h, blks_zero] at hb; cases hb
    · exact h
  by_cases e : i = k
  · subst e; exact sep hi ha hb hne
  · have h1 := mem_le hi ha
    have h2 := mem_le hk hb
    rcases Nat.lt_or_gt_of_ne e with h | h <;> omega
theorem isC_of {s : St} {n i a : Nat} (hI : Inv0 n s) (ha : a ∈ blks i (s i).1) : IsC (s i).1 := by
  rcases hI.cls i with h | h
  · rw [h, blks_zero] at ha; cases ha
  · exact h
theorem page_lt {s : St} {n i a : Nat} (hI : Inv0 n s) (ha : a ∈ blks i (s i).1) : 0 < i ∧ i < n := by
  have hc := isC_of hI ha
  have hb := hc.bd
  constructor
  · rcases Nat.eq_zero_or_pos i with e | e
    · subst e; have := hI.page0; omega
    · exact e
  · rcases Nat.lt_or_ge i n with e | e
    · exact e
    · have := hI.off i e; omega

theorem head0_zero {s : St} {n i : Nat} (hI : Inv0 n s) : head0 (s i).2 = 0 ↔ (s i).2 = [] := by
  constructor
  · intro h
    cases hl : (s i).2 with
    | nil => rfl
    | cons a l =>
      rw [hl] at h
      have ha : a ∈ blks i (s i).1 := hI.free i a (by rw [hl]; simp)
      have := (page_lt hI ha).1
      have := mem_le (isC_of hI ha) ha
      have : a = 0 := h
      omega
  · intro h; rw [h]; rfl
theorem head0_le {s : St} {n i : Nat} (hI : Inv0 n s) (hn : n ≤ 128) : head0 (s i).2 ≤ 65536 := by
  cases hl : (s i).2 with
  | nil => simp [head0]
  | cons a l =>
    have ha : a ∈ blks i (s i).1 := hI.free i a (by rw [hl]; simp)
    have h1 := (page_lt hI ha).2
    have h2 := mem_le (isC_of hI ha) ha
    show a ≤ 65536
    omega
theorem cls_le {s : St} {n : Nat} (hI : Inv0 n s) (i : Nat) : (s i).1 ≤ 256 := by
  rcases hI.cls i with h | h
  · omega
  · exact h.bd.2
theorem has_iff {s : St} {n c i : Nat} (hI : Inv0 n s) : hasR (rawOf s) c i ↔ has s c i = true := by
  unfold hasR rawOf has
  dsimp only
  rw [ne_eq, head0_zero hI]
  simp
theorem pgOf_some {s : St} {n c k : Nat} (hI : Inv0 n s) (hk : k < n) (h : hasR (rawOf s) c k) (hl : ∀ j, j < k → ¬ hasR (rawOf s) c j) : pgOf n s c = some k := by
  unfold pgOf
  rw [List.find?_range_eq_some]
  refine ⟨(has_iff hI).1 h, by simpa using hk, fun j hj => ?_⟩
  have := hl j hj
  rw [has_iff hI] at this
  simpa using this
theorem pgOf_none {s : St} {n c : Nat} (hI : Inv0 n s) (hl : ∀ j, j < n → ¬ hasR (rawOf s) c j) : pgOf n s c = none := by
  unfold pgOf
  rw [List.find?_range_eq_none]
  intro j hj
  have := hl j hj
  rw [has_iff hI] at this
  simpa using this
theorem low_new (s : St) (n : Nat) : low n (tkp s n) 1 = pgNew n s := by
  cases h : pgNew n s with
  | none =>
    unfold pgNew at h
    rw [List.find?_range_eq_none] at h
    refine Pool.low_none fun i hr => ?_
    have h1 := hr.1
    have h2 := hr.2 i (Nat.le_refl _) (by omega)
    have h3 := h i (by omega)
    simp [tkp] at h2 h3
    have := h2 (by omega)
    omega
  | some i =>
    unfold pgNew at h
    rw [List.find?_range_eq_some] at h
    obtain ⟨h1, h2, h3⟩ := h
    simp at h1 h2
    refine Pool.low_some ⟨by omega, fun j hj hj2 => ?_⟩ fun i' hi' hr => ?_
    · obtain rfl : j = i := by omega
      simp [tkp, h1]
    · have h4 := hr.2 i' (Nat.le_refl _) (by omega)
      have h5 := h3 i' hi'
      simp [tkp] at h4 h5
      have := h4 (by omega)
      omega
end Go.Proofs.YthblpnnbkjhmhaaDoor
