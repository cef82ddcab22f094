/- The laws' arena: 40 leaves, a root, keys beside them; what it begins with. No condition on the program. -/
import Derived.Test.YtiacclmapicmdaaDoorTrAdd
namespace Go.Proofs.YtiacclmapicmdaaDoor
open Go.RowKit

def N40 (j : Nat) : Prop := 1 ≤ j ∧ j ≤ 40
/-- The bytes once so many keys are laid down. -/
def kf (xs : List Nat) : Nat → Nat → Int
  | 0 => fun _ => 0
  | i + 1 => st (kf xs i) (32 * (i + 1) - 8) ((xs.getD i 0 : Nat) : Int) 8
def keyOf (xs : List Nat) (j : Nat) : Nat := xs.getD (j - 1) 0
def mkC (p g : Nat) (f0 : Nat → Int) : Cx := ⟨p, g, 2048, fun j => 32 * j, 8, N40, f0⟩
theorem pl40 : Pl 2048 (fun j => 32 * j) 8 N40 where
  big := by decide
  ad0 := rfl
  pos := fun j ⟨h1, h2⟩ => by omega
  apart := fun i j _ _ hn => by omega
  rpos := by omega
  rapart := fun j ⟨h1, h2⟩ => by omega
theorem len_sub : ∀ (m l : List Nat), l.Nodup → (∀ x, x ∈ l → x ∈ m) → l.length ≤ m.length
  | [], l, _, hs => by
    cases l with
    | nil => exact Nat.le_refl _
    | cons x l => exact absurd (hs x (by simp)) (by simp)
  | a :: m, l, hn, hs => by
    have h1 := len_sub m (l.erase a) (List.Nodup.erase a hn) (fun x hx => by
      have hx' := List.mem_of_mem_erase hx
      have hne : x ≠ a := by
        rintro rfl
        exact (List.Nodup.not_mem_erase hn) hx
      rcases List.mem_cons.1 (hs x hx') with e | e
      · exact absurd e hne
      · exact e)
    have h2 : l.length ≤ (l.erase a).length + 1 := by
      rw [List.length_erase]
      split <;> omega
    simp only [List.length_cons]
    omega
theorem n40_len {L : List Nat} (hn : L.Nodup) (h : ∀ j, j ∈ L → N40 j) : L.length ≤ 40 := by
  have := len_sub ((List.range 40).map (· + 1)) L hn (fun j hj => by
    obtain ⟨h1, h2⟩ := h j hj
    exact List.mem_map.2 ⟨j - 1, by simp; omega, by omega⟩)
  simpa using this
theorem cz40 (p g : Nat) (f0 : Nat → Int) : Cz (mkC p g f0) := fun L hn h => by
  have := n40_len hn h
  show L.length + 4 < 2048
  omega
/-- Bytes that no key is laid over stay. -/
theorem kf_out (xs : List Nat) : ∀ (m k : Nat), (∀ j, 1 ≤ j → j ≤ m → ¬ (32 * j - 8 ≤ k ∧ k < 32 * j)) → kf xs m k = 0
  | 0, k, _ => rfl
  | m + 1, k, h => by
    have := h (m + 1) (by omega) (by omega)
    unfold kf st
    rw [if_neg (by omega)]
    exact kf_out xs m k fun j h1 h2 => h j h1 (by omega)
theorem kf_word (xs : List Nat) (m : Nat) {k : Nat} (h : ∀ j, ¬ (32 * j - 8 < k + 4 ∧ k < 32 * j)) : lk (kf xs m) k = 0 :=
  lk_of_zero fun i h1 h2 => kf_out xs m i fun j _ _ => by have := h j; omega
theorem kf_key (xs : List Nat) : ∀ (m j : Nat), 1 ≤ j → ld (kf xs m) (32 * j - 8) 8 = if j ≤ m then ((xs.getD (j - 1) 0 : Nat) : Int) % 256 ^ 8 else 0
  | 0, j, hj => by
    rw [if_neg (by omega)]
    simp [kf, ld]
  | m + 1, j, hj => by
    unfold kf
    by_cases e : j = m + 1
    · subst e
      rw [if_pos (Nat.le_refl _), ld_st _ _ _ 8 8 (Nat.le_refl _)]
      simp
    · have : ld (st (kf xs m) (32 * (m + 1) - 8) ((xs.getD m 0 : Nat) : Int) 8) (32 * j - 8) 8 = ld (kf xs m) (32 * j - 8) 8 := ld_congr _ 8 fun i h1 h2 => by
        unfold st
        rw [if_neg (by omega)]
      rw [this, kf_key xs m j hj]
      by_cases e2 : j ≤ m
      · rw [if_pos e2, if_pos (by omega)]
      · rw [if_neg e2, if_neg (by omega)]
/-- No links at all. -/
def s0 : Tr := ⟨0, fun _ => ⟨0, 0, 0, false⟩⟩
theorem tm0 (xs : List Nat) (m : Nat) : Tm 2048 (fun j => 32 * j) 8 N40 s0 (fun _ => false) (kf xs m) := by
  refine ⟨pl40, fun j ⟨h1, h2⟩ i hi => ?_, ?_, .inl rfl, fun j _ => ⟨fun d => .inl (by cases d <;> rfl), .inl rfl⟩⟩
  · have e : wd (fun j => 32 * j) 8 s0 (fun _ => false) j i = 0 := by
      match i, hi with
      | 0, _ => rfl
      | 1, _ => rfl
      | 2, _ => rfl
      | 3, _ => rfl
      | 4, _ => rfl
    rw [e]
    exact kf_word xs m fun l => by omega
  · exact kf_word xs m fun l => by omega
theorem zn0 : Zn s0 := ⟨fun d => by cases d <;> rfl, rfl, rfl⟩
theorem al0 : Al s0 .e := ⟨rfl, List.nodup_nil, fun j _ _ => ⟨fun d => by cases d <;> rfl, rfl, rfl⟩⟩
/-- Keys stay where they are. -/
theorem ky40 (p g : Nat) (xs : List Nat) (hx : ∀ x, x ∈ xs → x < 18446744073709551616) : Ky (mkC p g (kf xs xs.length)) (-8) (keyOf xs) := ⟨fun j ⟨h1, h2⟩ => by
  refine ⟨32 * j - 8, by show ((32 * j : Nat) : Int) + -8 = _; omega, by show 32 * j - 8 + 8 ≤ 2048; omega, fun f hf => ?_⟩
  have e1 : ld f (32 * j - 8) 8 = ld (kf xs xs.length) (32 * j - 8) 8 := ld_congr _ 8 fun i h3 h4 => by
    rcases hf i with h | h | ⟨l, ⟨h5, h6⟩, h7, h8⟩
    · exact h
    · exact absurd h (by show ¬ (8 ≤ i ∧ i < 8 + 4); omega)
    · exfalso
      change 32 * l ≤ i at h7
      have h8 : i < 32 * l + 24 := by
        rcases h8 with h | h
        · change i < 32 * l + 20 at h; omega
        · have := h.1; change i < 32 * l + 24 at this; exact this
      omega
  rw [e1, kf_key xs _ j h1]
  unfold keyOf
  by_cases e : j ≤ xs.length
  · rw [if_pos e]
    have hlt : xs.getD (j - 1) 0 < 18446744073709551616 := by
      have : j - 1 < xs.length := by omega
      rw [List.getD_eq_getElem?_getD, List.getElem?_eq_getElem this]
      exact hx _ (List.getElem_mem this)
    have : (256 : Int) ^ 8 = 18446744073709551616 := by decide
    rw [this]
    omega
  · rw [if_neg e, List.getD_eq_getElem?_getD, List.getElem?_eq_none (by omega)]
    rfl⟩
end Go.Proofs.YtiacclmapicmdaaDoor
