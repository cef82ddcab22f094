/- Plain arithmetic of bits: a row of bools as a number, its bits set, cleared, asked and counted. No condition on the program. -/
import Derived.WalkKit
import Derived.Laws.BitsAllLaws
namespace Go.Proofs.YthblpnnbkjhmhaaDoor.Pool
open Go.RowKit

/-- The number of a row of bits, the lowest one first. -/
def num (f : Nat → Bool) : Nat → Nat
  | 0 => 0
  | n + 1 => num f n + if f n then 2 ^ n else 0
/-- How many of a row are set. -/
def cnt (f : Nat → Bool) : Nat → Nat
  | 0 => 0
  | n + 1 => cnt f n + if f n then 1 else 0
/-- A row, one place of it being b. -/
def upd (f : Nat → Bool) (i : Nat) (b : Bool) : Nat → Bool := fun j => if j = i then b else f j

theorem num_lt (f : Nat → Bool) : ∀ n, num f n < 2 ^ n
  | 0 => by simp [num]
  | n + 1 => by
    have := num_lt f n
    simp only [num, Nat.pow_succ]
    split <;> omega
theorem num_lt64 (f : Nat → Bool) : num f 64 < 18446744073709551616 := num_lt f 64
theorem num_testBit (f : Nat → Bool) : ∀ n i, (num f n).testBit i = (decide (i < n) && f i)
  | 0, i => by simp [num]
  | n + 1, i => by
    have ih := num_testBit f n i
    have hl := num_lt f n
    have e : num f (n + 1) = 2 ^ n * (if f n then 1 else 0) + num f n := by simp only [num]; split <;> omega
    rw [e, Nat.testBit_two_pow_mul_add _ hl]
    split
    · rename_i h
      rw [ih]
      simp [h, Nat.lt_succ_of_lt h]
    · rename_i h
      by_cases e2 : i = n
      · subst e2
        cases f i <;> simp
      · have h1 : ¬ i < n + 1 := by omega
        have h2 : i - n = (i - n - 1) + 1 := by omega
        rw [h2]
        cases hf : f n <;> simp [h1, Nat.testBit_succ]
theorem num_congr {f g : Nat → Bool} {n : Nat} (h : ∀ i, i < n → f i = g i) : num f n = num g n := by
  apply Nat.eq_of_testBit_eq
  intro i
  rw [num_testBit, num_testBit]
  by_cases hi : i < n
  · rw [h i hi]
  · simp [hi]
theorem num_or (f : Nat → Bool) (i : Nat) (hi : i < 64) : num f 64 ||| 2 ^ i = num (upd f i true) 64 := by
  apply Nat.eq_of_testBit_eq
  intro j
  rw [Nat.testBit_or, num_testBit, num_testBit, Nat.testBit_two_pow]
  by_cases e : j = i
  · subst e; simp [upd, hi]
  · have : ¬ i = j := fun h => e h.symm
    simp [upd, e, this]
theorem num_and (f : Nat → Bool) (i : Nat) (hi : i < 64) : num f 64 &&& 2 ^ i = if f i then 2 ^ i else 0 := by
  apply Nat.eq_of_testBit_eq
  intro j
  rw [Nat.testBit_and, num_testBit, Nat.testBit_two_pow]
  by_cases e : i = j
  · subst e; cases hf : f i <;> simp [hi, Nat.testBit_two_pow_self]
  · cases f i <;> simp [e]
theorem num_andNot (f : Nat → Bool) (i : Nat) (hi : i < 64) : num f 64 &&& (18446744073709551615 - 2 ^ i) = num (upd f i false) 64 := by
  apply Nat.eq_of_testBit_eq
  intro j
  have e0 : 18446744073709551615 - 2 ^ i = 2 ^ 64 - (2 ^ i + 1) := by omega
  have hp : 2 ^ i < 2 ^ 64 := Nat.pow_lt_pow_right (by decide) hi
  rw [Nat.testBit_and, num_testBit, num_testBit, e0, Nat.testBit_two_pow_sub_succ hp, Nat.testBit_two_pow]
  by_cases e : j = i
  · subst e; simp [upd]
  · have : ¬ i = j := fun h => e h.symm
    by_cases h64 : j < 64 <;> simp [upd, e, this, h64]

theorem pow_lt64 {i : Nat} (hi : i < 64) : 2 ^ i < 18446744073709551616 := Nat.pow_lt_pow_right (a := 2) (by decide) hi
/-- The walk's words. -/
theorem w_or (f : Nat → Bool) (i : Nat) (hi : i < 64) : bits .or .u64 ((num f 64 : Nat) : Int) ((2 ^ i : Nat) : Int) = ((num (upd f i true) 64 : Nat) : Int) := by
  rw [u64_or_nat _ _ (num_lt64 f) (pow_lt64 hi), num_or f i hi]
theorem w_andNot (f : Nat → Bool) (i : Nat) (hi : i < 64) : bits .andNot .u64 ((num f 64 : Nat) : Int) ((2 ^ i : Nat) : Int) = ((num (upd f i false) 64 : Nat) : Int) := by
  rw [u64_andNot_nat _ _ (num_lt64 f) (pow_lt64 hi), num_andNot f i hi]
theorem w_and (f : Nat → Bool) (i : Nat) (hi : i < 64) : bits .and .u64 ((num f 64 : Nat) : Int) ((2 ^ i : Nat) : Int) = if f i then ((2 ^ i : Nat) : Int) else 0 := by
  rw [u64_and_nat _ _ (num_lt64 f) (pow_lt64 hi), num_and f i hi]
  split <;> rfl

/-- A page's bit in its word. -/
def mk64 (k : Nat) : Nat := 2 ^ (k % 64)
theorem mk64_lt (k : Nat) : mk64 k < 18446744073709551616 := pow_lt64 (Nat.mod_lt _ (by decide))
theorem mk64_pos (k : Nat) : 0 < mk64 k := Nat.pow_pos (by decide)
theorem m_or (f : Nat → Bool) (k : Nat) : bits .or .u64 ((num f 64 : Nat) : Int) ((mk64 k : Nat) : Int) = ((num (upd f (k % 64) true) 64 : Nat) : Int) := w_or f _ (Nat.mod_lt _ (by decide))
theorem m_andNot (f : Nat → Bool) (k : Nat) : bits .andNot .u64 ((num f 64 : Nat) : Int) ((mk64 k : Nat) : Int) = ((num (upd f (k % 64) false) 64 : Nat) : Int) := w_andNot f _ (Nat.mod_lt _ (by decide))
theorem m_and (f : Nat → Bool) (k : Nat) : (bits .and .u64 ((num f 64 : Nat) : Int) ((mk64 k : Nat) : Int) != 0) = f (k % 64) := by
  have h : bits .and .u64 ((num f 64 : Nat) : Int) ((mk64 k : Nat) : Int) = if f (k % 64) then ((mk64 k : Nat) : Int) else 0 := w_and f _ (Nat.mod_lt _ (by decide))
  rw [h]
  have hp := mk64_pos k
  cases f (k % 64)
  · rfl
  · simp
    omega

/-! ### Counting -/
/-- Bytes, the lowest one first. -/
def ofB : List Nat → Nat
  | [] => 0
  | b :: l => b + 256 * ofB l
theorem and_split (a b c d : Nat) (ha : a < 256) (hc : c < 256) : (a + 256 * b) &&& (c + 256 * d) = (a &&& c) + 256 * (b &&& d) := by
  have hac : a &&& c < 2 ^ 8 := Nat.and_lt_two_pow _ hc
  have ha' : a < 2 ^ 8 := ha
  have hc' : c < 2 ^ 8 := hc
  have e1 : a + 256 * b = 2 ^ 8 * b + a := by omega
  have e2 : c + 256 * d = 2 ^ 8 * d + c := by omega
  have e3 : (a &&& c) + 256 * (b &&& d) = 2 ^ 8 * (b &&& d) + (a &&& c) := by omega
  rw [e1, e2, e3]
  apply Nat.eq_of_testBit_eq
  intro j
  rw [Nat.testBit_and, Nat.testBit_two_pow_mul_add _ ha', Nat.testBit_two_pow_mul_add _ hc', Nat.testBit_two_pow_mul_add _ hac]
  split <;> rw [Nat.testBit_and]
/-- A mask of k bytes. -/
def msk (c : Nat) : Nat → Nat
  | 0 => 0
  | k + 1 => c + 256 * msk c k
def sA (x : Nat) : Nat := ((x / 2) &&& 85) + (x &&& 85)
def sB (x : Nat) : Nat := ((x / 4) &&& 51) + (x &&& 51)
def sC (x : Nat) : Nat := (x / 16 + x) &&& 15
theorem sA1 : ∀ b : Fin 256, ∀ t : Fin 2, (b.val / 2 + 128 * t.val) &&& 85 = (b.val / 2) &&& 85 := by decide +kernel
theorem sB1 : ∀ b : Fin 256, ∀ t : Fin 4, (b.val / 4 + 64 * t.val) &&& 51 = (b.val / 4) &&& 51 := by decide +kernel
theorem stepA : ∀ l : List Nat, (∀ b ∈ l, b < 256) → ((ofB l / 2) &&& msk 85 l.length) + (ofB l &&& msk 85 l.length) = ofB (l.map sA)
  | [], _ => rfl
  | b :: l, h => by
    have hb := h b (by simp)
    have ih := stepA l (fun x hx => h x (by simp [hx]))
    have e1 : ofB (b :: l) / 2 = (b / 2 + 128 * (ofB l % 2)) + 256 * (ofB l / 2) := by simp only [ofB]; omega
    have h1 := sA1 ⟨b, hb⟩ ⟨ofB l % 2, by omega⟩
    simp only at h1
    rw [e1]
    show ((b / 2 + 128 * (ofB l % 2) + 256 * (ofB l / 2)) &&& (85 + 256 * msk 85 l.length)) + ((b + 256 * ofB l) &&& (85 + 256 * msk 85 l.length)) = sA b + 256 * ofB (l.map sA)
    rw [and_split _ _ _ _ (by omega) (by decide), and_split _ _ _ _ hb (by decide), h1, ← ih]
    unfold sA
    omega
theorem stepB : ∀ l : List Nat, (∀ b ∈ l, b < 256) → ((ofB l / 4) &&& msk 51 l.length) + (ofB l &&& msk 51 l.length) = ofB (l.map sB)
  | [], _ => rfl
  | b :: l, h => by
    have hb := h b (by simp)
    have ih := stepB l (fun x hx => h x (by simp [hx]))
    have e1 : ofB (b :: l) / 4 = (b / 4 + 64 * (ofB l % 4)) + 256 * (ofB l / 4) := by simp only [ofB]; omega
    have h1 := sB1 ⟨b, hb⟩ ⟨ofB l % 4, by omega⟩
    simp only at h1
    rw [e1]
    show ((b / 4 + 64 * (ofB l % 4) + 256 * (ofB l / 4)) &&& (51 + 256 * msk 51 l.length)) + ((b + 256 * ofB l) &&& (51 + 256 * msk 51 l.length)) = sB b + 256 * ofB (l.map sB)
    rw [and_split _ _ _ _ (by omega) (by decide), and_split _ _ _ _ hb (by decide), h1, ← ih]
    unfold sB
    omega
theorem sC1 : ∀ b : Fin 256, ∀ t : Fin 5, (b.val / 16 + b.val + 16 * t.val) &&& 15 = (b.val / 16 + b.val) &&& 15 := by decide +kernel
theorem stepC : ∀ l : List Nat, (∀ b ∈ l, b ≤ 68 ∧ b % 16 ≤ 4) → (ofB l / 16 + ofB l) &&& msk 15 l.length = ofB (l.map sC)
  | [], _ => rfl
  | b :: l, h => by
    have hb := h b (by simp)
    have ih := stepC l (fun x hx => h x (by simp [hx]))
    have h4 : ofB l % 16 ≤ 4 := by
      cases l with
      | nil => simp [ofB]
      | cons c l => have := (h c (by simp)).2; simp only [ofB]; omega
    have e1 : ofB (b :: l) / 16 + ofB (b :: l) = (b / 16 + b + 16 * (ofB l % 16)) + 256 * (ofB l / 16 + ofB l) := by simp only [ofB]; omega
    have h1 := sC1 ⟨b, by omega⟩ ⟨ofB l % 16, by omega⟩
    simp only at h1
    rw [e1]
    show (b / 16 + b + 16 * (ofB l % 16) + 256 * (ofB l / 16 + ofB l)) &&& (15 + 256 * msk 15 l.length) = sC b + 256 * ofB (l.map sC)
    rw [and_split _ _ _ _ (by omega) (by decide), h1, ih]
    rfl
theorem byteA : ∀ b : Fin 256, sA b.val < 256 := by decide +kernel
theorem byteB : ∀ b : Fin 256, sB (sA b.val) ≤ 68 ∧ sB (sA b.val) % 16 ≤ 4 := by decide +kernel
def popB : Nat → Nat → Nat
  | 0, _ => 0
  | k + 1, x => x % 2 + popB k (x / 2)
theorem byteC : ∀ b : Fin 256, sC (sB (sA b.val)) = popB 8 b.val := by decide +kernel
theorem cnt_congr {f g : Nat → Bool} : ∀ {n : Nat}, (∀ i, i < n → f i = g i) → cnt f n = cnt g n
  | 0, _ => rfl
  | n + 1, h => by
    unfold cnt
    rw [cnt_congr (n := n) (fun i hi => h i (by omega)), h n (by omega)]
theorem cnt_le (f : Nat → Bool) : ∀ n, cnt f n ≤ n
  | 0 => Nat.le_refl _
  | n + 1 => by have := cnt_le f n; unfold cnt; split <;> omega
def sh (f : Nat → Bool) (k : Nat) : Nat → Bool := fun i => f (k + i)
theorem num_add (f : Nat → Bool) (a : Nat) : ∀ b, num f (a + b) = num f a + 2 ^ a * num (sh f a) b
  | 0 => by simp [num]
  | b + 1 => by
    show num f (a + b) + (if f (a + b) then 2 ^ (a + b) else 0) = num f a + 2 ^ a * (num (sh f a) b + if f (a + b) then 2 ^ b else 0)
    rw [num_add f a b, Nat.mul_add, Nat.pow_add]
    split <;> simp [Nat.add_assoc]
theorem cnt_add (f : Nat → Bool) (a : Nat) : ∀ b, cnt f (a + b) = cnt f a + cnt (sh f a) b
  | 0 => by simp [cnt]
  | b + 1 => by
    show cnt f (a + b) + (if f (a + b) then 1 else 0) = cnt f a + (cnt (sh f a) b + if f (a + b) then 1 else 0)
    rw [cnt_add f a b, Nat.add_assoc]
theorem popB_num : ∀ (k : Nat) (f : Nat → Bool), popB k (num f k) = cnt f k
  | 0, _ => rfl
  | k + 1, f => by
    have e : k + 1 = 1 + k := by omega
    have h1 : num f 1 = if f 0 then 1 else 0 := by simp [num]
    have h2 : cnt f 1 = if f 0 then 1 else 0 := by simp [cnt]
    have h3 : num f 1 < 2 := num_lt f 1
    show num f (k + 1) % 2 + popB k (num f (k + 1) / 2) = cnt f (k + 1)
    rw [e, num_add, cnt_add, ← popB_num k (sh f 1)]
    have e1 : (num f 1 + 2 ^ 1 * num (sh f 1) k) % 2 = num f 1 := by omega
    have e2 : (num f 1 + 2 ^ 1 * num (sh f 1) k) / 2 = num (sh f 1) k := by omega
    rw [e1, e2, h1, h2]
theorem byte8 (f : Nat → Bool) : sC (sB (sA (num f 8))) = cnt f 8 := by
  have h := byteC ⟨num f 8, num_lt f 8⟩
  simp only at h
  rw [h, popB_num]
/-- The bytes of a row. -/
def bts (f : Nat → Bool) : Nat → List Nat
  | 0 => []
  | k + 1 => num f 8 :: bts (sh f 8) k
theorem bts_of : ∀ (k : Nat) (f : Nat → Bool), num f (8 * k) = ofB (bts f k)
  | 0, _ => rfl
  | k + 1, f => by
    have e : 8 * (k + 1) = 8 + 8 * k := by omega
    rw [e, num_add, bts_of k (sh f 8)]
    rfl
theorem bts_lt : ∀ (k : Nat) (f : Nat → Bool), ∀ b ∈ bts f k, b < 256
  | 0, _, _, h => by cases h
  | k + 1, f, b, h => by
    rcases List.mem_cons.1 h with rfl | h
    · exact num_lt f 8
    · exact bts_lt k _ b h
theorem bts_len : ∀ (k : Nat) (f : Nat → Bool), (bts f k).length = k
  | 0, _ => rfl
  | k + 1, f => by simp [bts, bts_len k]
def sum : List Nat → Nat
  | [] => 0
  | a :: l => a + sum l
theorem bts_sum : ∀ (k : Nat) (f : Nat → Bool), sum ((((bts f k).map sA).map sB).map sC) = cnt f (8 * k)
  | 0, _ => rfl
  | k + 1, f => by
    have e : 8 * (k + 1) = 8 + 8 * k := by omega
    rw [e, cnt_add, ← bts_sum k (sh f 8), ← byte8 f]
    rfl
theorem bts_le : ∀ (k : Nat) (f : Nat → Bool), ∀ b ∈ (((bts f k).map sA).map sB).map sC, b ≤ 8
  | 0, _, _, h => by cases h
  | k + 1, f, b, h => by
    rcases List.mem_cons.1 h with rfl | h
    · rw [byte8]; exact cnt_le f 8
    · exact bts_le k _ b h
theorem div256 (a R x : Nat) (ha : a < 256) (hx : x = a + 256 * R) : x / 256 = R := by omega
theorem div65536 (a b R x : Nat) (ha : a < 256) (hb : b < 256) (hx : x = a + 256 * (b + 256 * R)) : x / 65536 = R := by omega
theorem div32 (a b c d R x : Nat) (ha : a < 256) (hb : b < 256) (hc : c < 256) (hd : d < 256) (hx : x = a + 256 * (b + 256 * (c + 256 * (d + 256 * R)))) : x / 4294967296 = R := by omega
theorem ofB_lt : ∀ l : List Nat, (∀ b ∈ l, b < 256) → ofB l < 256 ^ l.length
  | [], _ => by simp [ofB]
  | b :: l, h => by
    have h1 := h b (by simp)
    have h2 := ofB_lt l (fun x hx => h x (by simp [hx]))
    simp only [ofB, List.length_cons, Nat.pow_succ]
    omega
theorem ofB_lt8 (a b c d e f g h : Nat) (h0 : a < 256) (h1 : b < 256) (h2 : c < 256) (h3 : d < 256) (h4 : e < 256) (h5 : f < 256) (h6 : g < 256) (h7 : h < 256) : ofB [a, b, c, d, e, f, g, h] < 18446744073709551616 :=
  Nat.lt_of_lt_of_eq (ofB_lt [a, b, c, d, e, f, g, h] (by simp [h0, h1, h2, h3, h4, h5, h6, h7])) (show 256 ^ 8 = _ by decide)
theorem ofB_half : ∀ l : List Nat, (∀ b ∈ l, b ≤ 68 ∧ b % 16 ≤ 4) → 2 * ofB l < 256 ^ l.length
  | [], _ => by simp [ofB]
  | b :: l, h => by
    have h1 := h b (by simp)
    have h2 := ofB_half l (fun x hx => h x (by simp [hx]))
    simp only [ofB, List.length_cons, Nat.pow_succ]
    omega
theorem fold1 (a b c d e f g h : Nat) : ofB [a, b, c, d, e, f, g, h] + ofB [b, c, d, e, f, g, h] = ofB [a + b, b + c, c + d, d + e, e + f, f + g, g + h, h] := by simp only [ofB]; omega
theorem fold2 (a b c d e f g h : Nat) : ofB [a, b, c, d, e, f, g, h] + ofB [c, d, e, f, g, h] = ofB [a + c, b + d, c + e, d + f, e + g, f + h, g, h] := by simp only [ofB]; omega
theorem fold4 (a b c d e f g h : Nat) : ofB [a, b, c, d, e, f, g, h] + ofB [e, f, g, h] = ofB [a + e, b + f, c + g, d + h, e, f, g, h] := by simp only [ofB]; omega
theorem mod128 (t s V : Nat) (h : t = s + 256 * V) (hs : s ≤ 64) : t % 128 = s := by omega
theorem fold_sum (a b c d e f g h : Nat) (h0 : a ≤ 8) (h1 : b ≤ 8) (h2 : c ≤ 8) (h3 : d ≤ 8) (h4 : e ≤ 8) (h5 : f ≤ 8) (h6 : g ≤ 8) (h7 : h ≤ 8) (x y z t : Nat)
    (hx : x = ofB [a, b, c, d, e, f, g, h]) (hy : y = x + x / 256) (hz : z = y + y / 65536) (ht : t = z + z / 4294967296) : t % 128 = sum [a, b, c, d, e, f, g, h] ∧ x < 18446744073709551616 ∧ y < 18446744073709551616 ∧ z < 18446744073709551616 ∧ t < 18446744073709551616 := by
  rw [div256 a _ x (Nat.lt_of_le_of_lt h0 (by decide)) hx, hx, fold1] at hy
  rw [div65536 _ _ _ y (by clear hx hy hz ht; omega) (by clear hx hy hz ht; omega) hy, hy, fold2] at hz
  rw [div32 _ _ _ _ _ z (by clear hx hy hz ht; omega) (by clear hx hy hz ht; omega) (by clear hx hy hz ht; omega) (by clear hx hy hz ht; omega) hz, hz, fold4] at ht
  have bx : x < 18446744073709551616 := by rw [hx]; clear hx hy hz ht; apply ofB_lt8 <;> omega
  have by_ : y < 18446744073709551616 := by rw [hy]; clear hx hy hz ht; apply ofB_lt8 <;> omega
  have bz : z < 18446744073709551616 := by rw [hz]; clear hx hy hz ht; apply ofB_lt8 <;> omega
  have bt : t < 18446744073709551616 := by rw [ht]; clear hx hy hz ht; apply ofB_lt8 <;> omega
  refine ⟨?_, bx, by_, bz, bt⟩
  rw [mod128 t _ _ ht (by clear hx hy hz ht bx by_ bz bt; omega)]
  clear hx hy hz ht bx by_ bz bt
  simp only [sum]
  omega
/-- The count, as math/bits makes it. -/
theorem pop64 (f : Nat → Bool) (x1 x2 x3 y z t : Nat)
    (h1 : x1 = ((num f 64 / 2) &&& 6148914691236517205) + (num f 64 &&& 6148914691236517205))
    (h2 : x2 = ((x1 / 4) &&& 3689348814741910323) + (x1 &&& 3689348814741910323))
    (h3 : x3 = (x2 / 16 + x2) &&& 1085102592571150095)
    (hy : y = x3 + x3 / 256) (hz : z = y + y / 65536) (ht : t = z + z / 4294967296) :
    t % 128 = cnt f 64 ∧ x1 < 18446744073709551616 ∧ x2 / 16 + x2 < 18446744073709551616 ∧ x3 < 18446744073709551616 ∧ y < 18446744073709551616 ∧ z < 18446744073709551616 ∧ t < 18446744073709551616 := by
  have hl := bts_len 8 f
  have m1 : (6148914691236517205 : Nat) = msk 85 (bts f 8).length := by rw [hl]; rfl
  have m2 : (3689348814741910323 : Nat) = msk 51 ((bts f 8).map sA).length := by rw [List.length_map, hl]; rfl
  have m3 : (1085102592571150095 : Nat) = msk 15 (((bts f 8).map sA).map sB).length := by rw [List.length_map, List.length_map, hl]; rfl
  have b1 : ∀ b ∈ (bts f 8).map sA, b < 256 := by
    intro b hb
    obtain ⟨c, hc, rfl⟩ := List.mem_map.1 hb
    exact byteA ⟨c, bts_lt 8 f c hc⟩
  have b2 : ∀ b ∈ ((bts f 8).map sA).map sB, b ≤ 68 ∧ b % 16 ≤ 4 := by
    intro b hb
    obtain ⟨c, hc, rfl⟩ := List.mem_map.1 hb
    obtain ⟨d, hd, rfl⟩ := List.mem_map.1 hc
    exact byteB ⟨d, bts_lt 8 f d hd⟩
  have e0 : num f 64 = ofB (bts f 8) := bts_of 8 f
  rw [e0, m1, stepA _ (bts_lt 8 f)] at h1
  rw [h1, m2, stepB _ b1] at h2
  rw [h2, m3, stepC _ b2] at h3
  have l1 : x1 < 18446744073709551616 := by
    rw [h1]
    have := ofB_lt _ b1
    rwa [List.length_map, hl] at this
  have l2 : x2 < 256 ^ 8 / 2 := by
    rw [h2]
    have := ofB_half _ b2
    rw [List.length_map, List.length_map, hl] at this
    omega
  have s8 := bts_sum 8 f
  have le8 := bts_le 8 f
  have l3 : ((((bts f 8).map sA).map sB).map sC).length = 8 := by rw [List.length_map, List.length_map, List.length_map, hl]
  generalize (((bts f 8).map sA).map sB).map sC = L at h3 s8 le8 l3
  match L, l3 with
  | [a, b, c, d, e, g, i, j], _ =>
    have := fold_sum a b c d e g i j (le8 _ (by simp)) (le8 _ (by simp)) (le8 _ (by simp)) (le8 _ (by simp)) (le8 _ (by simp)) (le8 _ (by simp)) (le8 _ (by simp)) (le8 _ (by simp)) x3 y z t h3 hy hz ht
    refine ⟨this.1.trans s8, l1, ?_, this.2⟩
    clear this hy hz ht h1 h2 h3 m1 m2 m3 e0
    omega
end Go.Proofs.YthblpnnbkjhmhaaDoor.Pool
