/- Plain arithmetic of little-endian numbers, over memories as functions from places to bytes. No condition on the program. -/
import Derived.WalkKit
import Derived.Laws.Bits64b
import Derived.Laws.Bits64
namespace Go.Proofs.YtiacclmapicmdaaDoor
open Go.RowKit

/-- A memory's first n bytes, as cells. -/
def row (n : Nat) (f : Nat → Int) : Array Value := ((List.range n).map fun i => Value.int .u8 (f i)).toArray

theorem row_size (n : Nat) (f : Nat → Int) : (row n f).size = n := by simp [row]
theorem row_at (n : Nat) (f : Nat → Int) (i : Nat) (h : i < n) : (row n f)[i]? = some (.int .u8 (f i)) := by
  simp [row, h]
theorem row_congr {n : Nat} {f h : Nat → Int} (e : ∀ i, i < n → f i = h i) : row n f = row n h := by
  unfold row
  congr 1
  apply List.map_congr_left
  intro i hi
  rw [e i (by simpa using hi)]
theorem row_set (n : Nat) (f : Nat → Int) (i : Nat) (c : Int) : (row n f).setIfInBounds i (.int .u8 c) = row n (fun j => if j = i then c else f j) := by
  apply Array.ext_getElem?
  intro j
  rw [Array.getElem?_setIfInBounds, row_size]
  by_cases hj : j < n
  · rw [row_at _ _ j hj, row_at _ _ j hj]
    by_cases e : i = j
    · subst e; simp [hj]
    · have e' : ¬ j = i := fun h => e h.symm
      simp [e, e']
  · have h1 : (row n f)[j]? = none := by simp [row]; omega
    have h2 : (row n (fun j => if j = i then c else f j))[j]? = none := by simp [row]; omega
    rw [h1, h2]
    split <;> simp_all

/-- Bytes all of them. -/
def Bytes (f : Nat → Int) : Prop := ∀ i, 0 ≤ f i ∧ f i ≤ 255

/-- The number that k bytes from a place on make, the lowest one first. -/
def ld (f : Nat → Int) (at_ : Nat) : Nat → Int
  | 0 => 0
  | k + 1 => ld f at_ k + f (at_ + k) * 256 ^ k

theorem ld_bound {f : Nat → Int} (h : Bytes f) (at_ : Nat) : ∀ k, 0 ≤ ld f at_ k ∧ ld f at_ k < 256 ^ k
  | 0 => ⟨Int.le_refl _, by simp [ld]⟩
  | k + 1 => by
    obtain ⟨a, b⟩ := ld_bound h at_ k
    obtain ⟨c, d⟩ := h (at_ + k)
    have hp : (0 : Int) < 256 ^ k := Int.pow_pos (by decide)
    unfold ld
    have e1 : 0 ≤ f (at_ + k) * 256 ^ k := Int.mul_nonneg c (Int.le_of_lt hp)
    have e2 : f (at_ + k) * 256 ^ k ≤ 255 * 256 ^ k := Int.mul_le_mul_of_nonneg_right d (Int.le_of_lt hp)
    have e3 : (256 : Int) ^ (k + 1) = 256 * 256 ^ k := by rw [Int.pow_succ, Int.mul_comm]
    rw [e3]
    omega

theorem pow256 (k : Nat) : (2 : Int) ^ (8 * k) = 256 ^ k := by
  rw [Int.pow_mul]; rfl

/-- v | c << 8k. -/
theorem or_shift (a c : Int) (k : Nat) (hk : k < 8) (ha : 0 ≤ a) (ha2 : a < 256 ^ k) (hc : 0 ≤ c) (hc2 : c ≤ 255) :
    bits .or .u64 a (IntKind.u64.wrap (c * 2 ^ (8 * k))) = a + c * 256 ^ k := by
  obtain ⟨a, rfl⟩ := Int.eq_ofNat_of_zero_le ha
  obtain ⟨c, rfl⟩ := Int.eq_ofNat_of_zero_le hc
  have hN : a < 256 ^ k := by
    have : ((a : Int)) < ((256 ^ k : Nat) : Int) := by simpa using ha2
    exact_mod_cast this
  have hN2 : a < 2 ^ (8 * k) := by rw [Nat.pow_mul]; exact hN
  have hc3 : c ≤ 255 := by omega
  have hp : (2 : Nat) ^ (8 * k) ≤ 2 ^ 56 := Nat.pow_le_pow_right (by decide) (by omega)
  have hm : c * 2 ^ (8 * k) ≤ 255 * 2 ^ 56 := Nat.mul_le_mul hc3 hp
  have e1 : ((c : Int)) * 2 ^ (8 * k) = ((c * 2 ^ (8 * k) : Nat) : Int) := by simp
  have e2 : IntKind.u64.wrap (((c * 2 ^ (8 * k) : Nat) : Int)) = ((c * 2 ^ (8 * k) : Nat) : Int) := by
    rw [IntKind.wrap_u64]; omega
  rw [e1, e2, bits_or_u64_nat _ _ (by omega) (by omega)]
  have e3 : a ||| c * 2 ^ (8 * k) = c * 2 ^ (8 * k) + a := by
    rw [Nat.or_comm, ← Nat.shiftLeft_eq, Nat.shiftLeft_add_eq_or_of_lt hN2]
  rw [e3]
  have e4 : ((256 : Int)) ^ k = ((2 ^ (8 * k) : Nat) : Int) := by rw [← pow256]; simp
  rw [e4]
  simp
  omega

/-- What a number lays down at a place behind the first byte. -/
def byteOf (v : Int) (k : Nat) : Int := v / 256 ^ k % 256
theorem byteOf_bound (v : Int) (k : Nat) : 0 ≤ byteOf v k ∧ byteOf v k ≤ 255 := by unfold byteOf; omega

/-- A memory with the low k bytes of v laid down at a place. -/
def st (f : Nat → Int) (at_ : Nat) (v : Int) (k : Nat) : Nat → Int := fun j => if at_ ≤ j ∧ j < at_ + k then byteOf v (j - at_) else f j

theorem st_bytes {f : Nat → Int} (h : Bytes f) (at_ : Nat) (v : Int) (k : Nat) : Bytes (st f at_ v k) := by
  intro j; unfold st; split
  · exact byteOf_bound _ _
  · exact h j
theorem st_zero (f : Nat → Int) (at_ : Nat) (v : Int) : st f at_ v 0 = f := by
  funext j; unfold st; rw [if_neg (by omega)]
theorem st_succ (f : Nat → Int) (at_ : Nat) (v : Int) (k : Nat) : (fun j => if j = at_ + k then byteOf v k else st f at_ v k j) = st f at_ v (k + 1) := by
  funext j
  unfold st
  by_cases e : j = at_ + k
  · subst e
    rw [if_pos rfl, if_pos (by omega)]
    congr 1
    omega
  · rw [if_neg e]
    by_cases h : at_ ≤ j ∧ j < at_ + k
    · rw [if_pos h, if_pos (by omega)]
    · rw [if_neg h, if_neg (by omega)]

theorem ld_congr {f h : Nat → Int} (at_ : Nat) : ∀ k, (∀ i, at_ ≤ i → i < at_ + k → f i = h i) → ld f at_ k = ld h at_ k
  | 0, _ => rfl
  | k + 1, e => by
    unfold ld
    rw [ld_congr at_ k (fun i h1 h2 => e i h1 (by omega)), e (at_ + k) (by omega) (by omega)]

theorem mod_succ (v : Int) (k : Nat) : v % 256 ^ (k + 1) = v % 256 ^ k + byteOf v k * 256 ^ k := by
  unfold byteOf
  have hp : (0 : Int) < 256 ^ k := Int.pow_pos (by decide)
  rw [Int.pow_succ]
  generalize (256 : Int) ^ k = a at *
  rw [Int.emod_def v (a * 256), Int.emod_def v a, Int.emod_def (v / a) 256, ← Int.ediv_ediv_of_nonneg (Int.le_of_lt hp)]
  generalize v / a = q
  rw [Int.sub_mul, Int.mul_assoc a, Int.mul_comm a (256 * (q / 256)), Int.mul_comm a q]
  omega

theorem ld_st (f : Nat → Int) (at_ : Nat) (v : Int) (n : Nat) : ∀ k, k ≤ n → ld (st f at_ v n) at_ k = v % 256 ^ k
  | 0, _ => by simp [ld]
  | k + 1, h => by
    unfold ld
    rw [ld_st f at_ v n k (by omega), mod_succ]
    congr 2
    unfold st
    rw [if_pos (by omega)]
    congr 1
    omega

/-- byte(v >> 8k). -/
theorem byte_shift (v : Int) (k : Nat) : v / 2 ^ (8 * k) % 256 = byteOf v k := by
  rw [pow256]; rfl

/-- A number of 2k bytes is its halves. -/
theorem ld_add (f : Nat → Int) (at_ k : Nat) : ∀ j, ld f at_ (k + j) = ld f at_ k + ld f (at_ + k) j * 256 ^ k
  | 0 => by simp [ld]
  | j + 1 => by
    show ld f at_ (k + j) + f (at_ + (k + j)) * 256 ^ (k + j) = ld f at_ k + (ld f (at_ + k) j + f (at_ + k + j) * 256 ^ j) * 256 ^ k
    rw [ld_add f at_ k j, Int.add_mul, Int.mul_assoc (f (at_ + k + j)), ← Int.pow_add, Nat.add_comm j k, Nat.add_assoc at_ k j]
    omega

/-- A memory with n bytes of c from a place on. -/
def fl (f : Nat → Int) (at_ : Nat) (c : Int) (n : Nat) : Nat → Int := fun j => if at_ ≤ j ∧ j < at_ + n then c else f j
theorem fl_bytes {f : Nat → Int} (h : Bytes f) (at_ : Nat) (c : Int) (n : Nat) (hc : 0 ≤ c ∧ c ≤ 255) : Bytes (fl f at_ c n) := by
  intro j; unfold fl; split
  · exact hc
  · exact h j
theorem fl_zero (f : Nat → Int) (at_ : Nat) (c : Int) : fl f at_ c 0 = f := by
  funext j; unfold fl; rw [if_neg (by omega)]
theorem fl_succ (f : Nat → Int) (at_ : Nat) (c : Int) (k : Nat) : (fun j => if j = at_ + k then c else fl f at_ c k j) = fl f at_ c (k + 1) := by
  funext j
  unfold fl
  by_cases e : j = at_ + k
  · subst e
    rw [if_pos rfl, if_pos (by omega)]
  · rw [if_neg e]
    by_cases h : at_ ≤ j ∧ j < at_ + k
    · rw [if_pos h, if_pos (by omega)]
    · rw [if_neg h, if_neg (by omega)]
end Go.Proofs.YtiacclmapicmdaaDoor
