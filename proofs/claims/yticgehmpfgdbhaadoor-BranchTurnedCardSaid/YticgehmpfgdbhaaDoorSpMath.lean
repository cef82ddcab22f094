/- Plain arithmetic of spans of 64-bit numbers: what span's functions answer, and the laws of it. No condition on the program. -/
import Derived.Test.YticgehmpfgdbhaaDoorAMath
import Derived.Lib.BitFns
import Derived.Lib.ItoaNum
namespace Go.Proofs.YticgehmpfgdbhaaDoor
open Go.RowKit

/-- A span: its two ends. -/
structure Sp where
  lo : Nat
  hi : Nat
deriving DecidableEq
def Sp.ok (s : Sp) : Prop := s.lo < 18446744073709551616 ∧ s.hi < 18446744073709551616
def spv (s : Sp) : Value := .agg #[.int .u64 (s.lo : Int), .int .u64 (s.hi : Int)]
def mayV (s : Sp) : Bool := decide (s.lo ≤ s.hi)
def hasV (s : Sp) (n : Nat) : Bool := decide (s.lo ≤ n) && decide (n ≤ s.hi)
def wiV (s t : Sp) : Bool := mayV s && mayV t && hasV t s.lo && hasV t s.hi
def sp0 : Sp := ⟨0, 0⟩
def spAll : Sp := ⟨0, 18446744073709551615⟩
def one (n : Nat) : Sp := ⟨n, n⟩
def isOne (s : Sp) : Bool := decide (s.lo = s.hi)
def joV (s t : Sp) : Sp := if mayV s && mayV t then ⟨min s.lo t.lo, max s.hi t.hi⟩ else sp0
def joE (s t : Sp) : Int := if mayV s && mayV t then 0 else 1
def meV (s t : Sp) : Sp := if mayV s && mayV t then if max s.lo t.lo ≤ min s.hi t.hi then ⟨max s.lo t.lo, min s.hi t.hi⟩ else sp0 else sp0
def meE (s t : Sp) : Int := if mayV s && mayV t then if max s.lo t.lo ≤ min s.hi t.hi then 0 else 6 else 1
/-- The least number of ones alone that is not below n. -/
def fil (n : Nat) : Nat := 2 ^ Lib.bitLen n - 1
def addV (s t : Sp) : Sp := if s.hi + t.hi < 18446744073709551616 then ⟨s.lo + t.lo, s.hi + t.hi⟩ else spAll
def subV (s t : Sp) : Sp := if s.lo < t.hi then spAll else ⟨s.lo - t.hi, s.hi - t.lo⟩
def mulV (s t : Sp) : Sp := if s.hi * t.hi < 18446744073709551616 then ⟨s.lo * t.lo, s.hi * t.hi⟩ else spAll
def divV (s t : Sp) : Sp := if t.lo = 0 then ⟨0, s.hi⟩ else ⟨s.lo / t.hi, s.hi / t.lo⟩
def modV (s t : Sp) : Sp := if s.hi < t.lo ∨ t = sp0 then s else if t.lo = 0 then ⟨0, s.hi⟩ else ⟨0, min s.hi (t.hi - 1)⟩
def andV (s t : Sp) : Sp := ⟨0, min s.hi t.hi⟩
def orV (s t : Sp) : Sp := ⟨max s.lo t.lo, fil (s.hi ||| t.hi)⟩
def xorV (s t : Sp) : Sp := ⟨0, fil (s.hi ||| t.hi)⟩
def shlV (s t : Sp) : Sp := if t.lo = t.hi ∧ s.hi ≤ 18446744073709551615 / 2 ^ (t.lo % 64) then ⟨s.lo * 2 ^ (t.lo % 64), s.hi * 2 ^ (t.lo % 64)⟩ else spAll
def shrV (s t : Sp) : Sp := if t.lo = t.hi then ⟨s.lo / 2 ^ (t.lo % 64), s.hi / 2 ^ (t.lo % 64)⟩ else ⟨0, s.hi⟩
def sarV (s t : Sp) : Sp := if 9223372036854775808 ≤ s.hi then spAll else shrV s t
/-- What the table says, of spans that may be and aren't both single. -/
def tabV (op : Int) (s t : Sp) : Sp :=
  if op = 1 then addV s t else if op = 2 then subV s t else if op = 3 then mulV s t else if op = 4 then divV s t else if op = 5 then modV s t
  else if op = 6 then andV s t else if op = 7 then orV s t else if op = 8 then xorV s t else if op = 9 then shlV s t else if op = 10 then shrV s t
  else if op = 11 then sarV s t else sp0
/-- What Do answers. -/
def sdV (op : Int) (s t : Sp) : Sp := if mayV s && mayV t then if isOne s && isOne t then one (doV op s.lo t.lo) else tabV op s t else sp0
def sdE (op : Int) (s t : Sp) : Int := if mayV s && mayV t then doE op else 1

theorem may_iff {s : Sp} : mayV s = true ↔ s.lo ≤ s.hi := by simp [mayV]
theorem has_iff {s : Sp} {n : Nat} : hasV s n = true ↔ s.lo ≤ n ∧ n ≤ s.hi := by simp [hasV]
theorem wi_iff {s t : Sp} : wiV s t = true ↔ s.lo ≤ s.hi ∧ t.lo ≤ s.lo ∧ s.hi ≤ t.hi := by
  simp [wiV, mayV, hasV]; omega
theorem one_iff {s : Sp} : isOne s = true ↔ s.lo = s.hi := by simp [isOne]

/-! ### Ones alone -/
theorem bl_le {n : Nat} (h : n < 18446744073709551616) : Lib.bitLen n ≤ 64 := Lib.bitLen_le n 64 (Nat.le_refl _) h
theorem bl_lt {n : Nat} (h : n < 18446744073709551616) : n < 2 ^ Lib.bitLen n := by
  by_cases h0 : n = 0
  · subst h0; decide
  · exact (Lib.bitLenAux_bounds 64 n h h0).2.2
theorem bl_ge {n : Nat} (h : n < 18446744073709551616) {k : Nat} (hk : k < Lib.bitLen n) : 2 ^ k ≤ n := by
  by_cases h0 : n = 0
  · subst h0
    exact absurd hk (by simp [Lib.bitLen, Lib.bitLenAux])
  · have h1 := (Lib.bitLenAux_bounds 64 n h h0).2.1
    have h2 : 2 ^ k ≤ 2 ^ (Lib.bitLenAux 64 n - 1) := Nat.pow_le_pow_right (by decide) (by unfold Lib.bitLen at hk; omega)
    omega
theorem fil_lt {n : Nat} (h : n < 18446744073709551616) : fil n < 18446744073709551616 := by
  have h1 : 2 ^ Lib.bitLen n ≤ 2 ^ 64 := Nat.pow_le_pow_right (by decide) (bl_le h)
  have h2 := Nat.two_pow_pos (Lib.bitLen n)
  unfold fil
  omega
theorem le_fil {n : Nat} (h : n < 18446744073709551616) : n ≤ fil n := by
  have := bl_lt h
  unfold fil
  omega
/-- Numbers below: their either is below the ones. -/
theorem or_fil {a b x y : Nat} (hx : x < 18446744073709551616) (hy : y < 18446744073709551616) (ha : a ≤ x) (hb : b ≤ y) : a ||| b ≤ fil (x ||| y) := by
  have hl := bl_lt (or_lt hx hy)
  have h1 : x ≤ x ||| y := Nat.left_le_or
  have h2 : y ≤ x ||| y := Nat.right_le_or
  have := Nat.or_lt_two_pow (n := Lib.bitLen (x ||| y)) (show a < _ by omega) (show b < _ by omega)
  unfold fil
  omega
theorem xor_fil {a b x y : Nat} (hx : x < 18446744073709551616) (hy : y < 18446744073709551616) (ha : a ≤ x) (hb : b ≤ y) : a ^^^ b ≤ fil (x ||| y) := by
  have hl := bl_lt (or_lt hx hy)
  have h1 : x ≤ x ||| y := Nat.left_le_or
  have h2 : y ≤ x ||| y := Nat.right_le_or
  have := Nat.xor_lt_two_pow (n := Lib.bitLen (x ||| y)) (show a < _ by omega) (show b < _ by omega)
  unfold fil
  omega

/-! ### What comes of both is a span of 64-bit numbers -/
theorem all_ok : spAll.ok := by unfold spAll Sp.ok; decide
theorem zero_ok : sp0.ok := by unfold sp0 Sp.ok; decide
theorem shl_fits {a x k : Nat} (h : a ≤ x) (hx : x ≤ 18446744073709551615 / 2 ^ k) : a * 2 ^ k < 18446744073709551616 := by
  have h1 : a * 2 ^ k ≤ 18446744073709551615 / 2 ^ k * 2 ^ k := Nat.mul_le_mul_right _ (Nat.le_trans h hx)
  have h2 := Nat.div_mul_le_self 18446744073709551615 (2 ^ k)
  omega
theorem tab_ok (op : Int) {s t : Sp} (hs : s.ok) (ht : t.ok) (ms : s.lo ≤ s.hi) (mt : t.lo ≤ t.hi) : (tabV op s t).ok := by
  obtain ⟨s1, s2⟩ := hs
  obtain ⟨t1, t2⟩ := ht
  have o := or_lt s2 t2
  unfold tabV
  repeat' split
  · unfold addV Sp.ok; split
    · dsimp only; omega
    · exact all_ok
  · unfold subV; split
    · exact all_ok
    · unfold Sp.ok; dsimp only; omega
  · unfold mulV; split
    · have : s.lo * t.lo ≤ s.hi * t.hi := Nat.mul_le_mul ms mt
      unfold Sp.ok; dsimp only; omega
    · exact all_ok
  · unfold divV; split
    · unfold Sp.ok; dsimp only; omega
    · have h1 := Nat.div_le_self s.lo t.hi
      have h2 := Nat.div_le_self s.hi t.lo
      unfold Sp.ok; dsimp only; omega
  · unfold modV; repeat' split
    · exact ⟨s1, s2⟩
    · unfold Sp.ok; dsimp only; omega
    · unfold Sp.ok; dsimp only; omega
  · unfold andV Sp.ok; dsimp only; omega
  · have := fil_lt o
    unfold orV Sp.ok; dsimp only; omega
  · have := fil_lt o
    unfold xorV Sp.ok; dsimp only; omega
  · unfold shlV; split
    · rename_i h
      exact ⟨shl_fits ms h.2, shl_fits (Nat.le_refl _) h.2⟩
    · exact all_ok
  · unfold shrV; split
    · have h1 := Nat.div_le_self s.lo (2 ^ (t.lo % 64))
      have h2 := Nat.div_le_self s.hi (2 ^ (t.lo % 64))
      unfold Sp.ok; dsimp only; omega
    · unfold Sp.ok; dsimp only; omega
  · unfold sarV; split
    · exact all_ok
    · unfold shrV; split
      · have h1 := Nat.div_le_self s.lo (2 ^ (t.lo % 64))
        have h2 := Nat.div_le_self s.hi (2 ^ (t.lo % 64))
        unfold Sp.ok; dsimp only; omega
      · unfold Sp.ok; dsimp only; omega
  · exact zero_ok
theorem sd_ok (op : Int) {s t : Sp} (hs : s.ok) (ht : t.ok) : (sdV op s t).ok := by
  unfold sdV
  split
  · rename_i h
    simp only [Bool.and_eq_true, may_iff] at h
    split
    · exact ⟨doV_lt op hs.1 ht.1, doV_lt op hs.1 ht.1⟩
    · exact tab_ok op hs ht h.1 h.2
  · exact zero_ok
theorem jo_ok {s t : Sp} (hs : s.ok) (ht : t.ok) : (joV s t).ok := by
  obtain ⟨s1, s2⟩ := hs
  obtain ⟨t1, t2⟩ := ht
  unfold joV
  split
  · unfold Sp.ok; dsimp only; omega
  · exact zero_ok
theorem me_ok {s t : Sp} (hs : s.ok) (ht : t.ok) : (meV s t).ok := by
  obtain ⟨s1, s2⟩ := hs
  obtain ⟨t1, t2⟩ := ht
  unfold meV
  split
  · split
    · unfold Sp.ok; dsimp only; omega
    · exact zero_ok
  · exact zero_ok

/-! ### What comes of a number of each is in what comes of both -/
theorem div_mono {x a A b B y : Nat} (h1 : a ≤ x) (h2 : x ≤ A) (h3 : b ≤ y) (h4 : y ≤ B) (h0 : b ≠ 0) : a / B ≤ x / y ∧ x / y ≤ A / b :=
  ⟨Nat.le_trans (Nat.div_le_div_right h1) (Nat.div_le_div_left h4 (by omega)), Nat.le_trans (Nat.div_le_div_right h2) (Nat.div_le_div_left h3 (by omega))⟩
theorem has_mk {a b n : Nat} (h : a ≤ n) (k : n ≤ b) : (⟨a, b⟩ : Sp).lo ≤ n ∧ n ≤ (⟨a, b⟩ : Sp).hi := ⟨h, k⟩
theorem has_all {n : Nat} (h : n < 18446744073709551616) : spAll.lo ≤ n ∧ n ≤ spAll.hi := ⟨Nat.zero_le _, Nat.le_of_lt_succ h⟩
theorem in_add {s t : Sp} {x y : Nat} (h1 : s.lo ≤ x) (h2 : x ≤ s.hi) (h3 : t.lo ≤ y) (h4 : y ≤ t.hi) : (addV s t).lo ≤ doV 1 x y ∧ doV 1 x y ≤ (addV s t).hi := by
  show _ ≤ (x + y) % 18446744073709551616 ∧ (x + y) % 18446744073709551616 ≤ _
  unfold addV
  split
  · dsimp only; omega
  · exact has_all (Nat.mod_lt _ (by decide))
theorem in_sub {s t : Sp} {x y : Nat} (k : t.hi < 18446744073709551616) (kx : x < 18446744073709551616) (h1 : s.lo ≤ x) (h2 : x ≤ s.hi) (h3 : t.lo ≤ y) (h4 : y ≤ t.hi) : (subV s t).lo ≤ doV 2 x y ∧ doV 2 x y ≤ (subV s t).hi := by
  show _ ≤ (x + (18446744073709551616 - y)) % 18446744073709551616 ∧ (x + (18446744073709551616 - y)) % 18446744073709551616 ≤ _
  unfold subV
  split
  · exact has_all (Nat.mod_lt _ (by decide))
  · dsimp only; omega
theorem in_mul {s t : Sp} {x y : Nat} (h1 : s.lo ≤ x) (h2 : x ≤ s.hi) (h3 : t.lo ≤ y) (h4 : y ≤ t.hi) : (mulV s t).lo ≤ doV 3 x y ∧ doV 3 x y ≤ (mulV s t).hi := by
  show _ ≤ x * y % 18446744073709551616 ∧ x * y % 18446744073709551616 ≤ _
  unfold mulV
  split
  · rename_i h
    have e1 := Nat.mul_le_mul h1 h3
    have e2 := Nat.mul_le_mul h2 h4
    rw [Nat.mod_eq_of_lt (by omega)]
    exact ⟨e1, e2⟩
  · exact has_all (Nat.mod_lt _ (by decide))
theorem in_div {s t : Sp} {x y : Nat} (h1 : s.lo ≤ x) (h2 : x ≤ s.hi) (h3 : t.lo ≤ y) (h4 : y ≤ t.hi) : (divV s t).lo ≤ doV 4 x y ∧ doV 4 x y ≤ (divV s t).hi := by
  show _ ≤ x / y ∧ x / y ≤ _
  unfold divV
  split
  · exact ⟨Nat.zero_le _, Nat.le_trans (Nat.div_le_self x y) h2⟩
  · rename_i h0
    exact div_mono h1 h2 h3 h4 h0
theorem in_mod {s t : Sp} {x y : Nat} (h1 : s.lo ≤ x) (h2 : x ≤ s.hi) (h3 : t.lo ≤ y) (h4 : y ≤ t.hi) : (modV s t).lo ≤ doV 5 x y ∧ doV 5 x y ≤ (modV s t).hi := by
  show _ ≤ x % y ∧ x % y ≤ _
  have hl := Nat.mod_le x y
  unfold modV
  split
  · rename_i h
    rcases h with h | rfl
    · rw [Nat.mod_eq_of_lt (by omega)]
      exact ⟨h1, h2⟩
    · have : y = 0 := by simp only [sp0] at h4; omega
      subst this
      rw [Nat.mod_zero]
      exact ⟨h1, h2⟩
  · split
    · exact ⟨Nat.zero_le _, by dsimp only; omega⟩
    · have := Nat.mod_lt x (show y > 0 by omega)
      exact ⟨Nat.zero_le _, by dsimp only; omega⟩
theorem in_and {s t : Sp} {x y : Nat} (h2 : x ≤ s.hi) (h4 : y ≤ t.hi) : (andV s t).lo ≤ doV 6 x y ∧ doV 6 x y ≤ (andV s t).hi := by
  show _ ≤ x &&& y ∧ x &&& y ≤ _
  have e1 : x &&& y ≤ x := Nat.and_le_left
  have e2 : x &&& y ≤ y := Nat.and_le_right
  unfold andV
  dsimp only
  omega
theorem in_or {s t : Sp} {x y : Nat} (ks : s.ok) (kt : t.ok) (h1 : s.lo ≤ x) (h2 : x ≤ s.hi) (h3 : t.lo ≤ y) (h4 : y ≤ t.hi) : (orV s t).lo ≤ doV 7 x y ∧ doV 7 x y ≤ (orV s t).hi := by
  show _ ≤ x ||| y ∧ x ||| y ≤ _
  have e1 : x ≤ x ||| y := Nat.left_le_or
  have e2 : y ≤ x ||| y := Nat.right_le_or
  have e3 := or_fil ks.2 kt.2 h2 h4
  unfold orV
  dsimp only
  omega
theorem in_xor {s t : Sp} {x y : Nat} (ks : s.ok) (kt : t.ok) (h2 : x ≤ s.hi) (h4 : y ≤ t.hi) : (xorV s t).lo ≤ doV 8 x y ∧ doV 8 x y ≤ (xorV s t).hi :=
  ⟨Nat.zero_le _, xor_fil ks.2 kt.2 h2 h4⟩
theorem in_shl {s t : Sp} {x y : Nat} (h1 : s.lo ≤ x) (h2 : x ≤ s.hi) (h3 : t.lo ≤ y) (h4 : y ≤ t.hi) : (shlV s t).lo ≤ doV 9 x y ∧ doV 9 x y ≤ (shlV s t).hi := by
  show _ ≤ x * 2 ^ (y % 64) % 18446744073709551616 ∧ x * 2 ^ (y % 64) % 18446744073709551616 ≤ _
  unfold shlV
  split
  · rename_i h
    obtain ⟨ha, hb⟩ := h
    obtain rfl : y = t.lo := by omega
    rw [Nat.mod_eq_of_lt (shl_fits h2 hb)]
    exact ⟨Nat.mul_le_mul_right _ h1, Nat.mul_le_mul_right _ h2⟩
  · exact has_all (Nat.mod_lt _ (by decide))
theorem in_shr {s t : Sp} {x y : Nat} (h1 : s.lo ≤ x) (h2 : x ≤ s.hi) (h3 : t.lo ≤ y) (h4 : y ≤ t.hi) : (shrV s t).lo ≤ x / 2 ^ (y % 64) ∧ x / 2 ^ (y % 64) ≤ (shrV s t).hi := by
  unfold shrV
  split
  · rename_i h
    obtain rfl : y = t.lo := by omega
    exact ⟨Nat.div_le_div_right h1, Nat.div_le_div_right h2⟩
  · exact ⟨Nat.zero_le _, Nat.le_trans (Nat.div_le_self _ _) h2⟩
theorem in_sar {s t : Sp} {x y : Nat} (kx : x < 18446744073709551616) (h1 : s.lo ≤ x) (h2 : x ≤ s.hi) (h3 : t.lo ≤ y) (h4 : y ≤ t.hi) : (sarV s t).lo ≤ doV 11 x y ∧ doV 11 x y ≤ (sarV s t).hi := by
  show _ ≤ sar x (y % 64) ∧ sar x (y % 64) ≤ _
  unfold sarV
  split
  · exact has_all (sar_lt kx (Nat.mod_lt y (by decide)))
  · unfold sar
    rw [if_neg (by omega), Nat.add_zero]
    exact in_shr h1 h2 h3 h4
theorem l_sound (op : Int) {s t : Sp} {x y : Nat} (hop : 1 ≤ op ∧ op ≤ 11) (hs : s.ok) (ht : t.ok) (hx : hasV s x = true) (hy : hasV t y = true) : mayV (sdV op s t) = true ∧ hasV (sdV op s t) (doV op x y) = true := by
  rw [has_iff] at hx hy
  obtain ⟨h1, h2⟩ := hx
  obtain ⟨h3, h4⟩ := hy
  have kx : x < 18446744073709551616 := Nat.lt_of_le_of_lt h2 hs.2
  suffices hh : (sdV op s t).lo ≤ doV op x y ∧ doV op x y ≤ (sdV op s t).hi by
    exact ⟨may_iff.2 (by omega), has_iff.2 hh⟩
  have m : (mayV s && mayV t) = true := by simp only [Bool.and_eq_true, may_iff]; omega
  unfold sdV
  rw [if_pos m]
  split
  · rename_i h
    simp only [Bool.and_eq_true, one_iff] at h
    obtain rfl : x = s.lo := by omega
    obtain rfl : y = t.lo := by omega
    exact ⟨Nat.le_refl _, Nat.le_refl _⟩
  · rcases (show op = 1 ∨ op = 2 ∨ op = 3 ∨ op = 4 ∨ op = 5 ∨ op = 6 ∨ op = 7 ∨ op = 8 ∨ op = 9 ∨ op = 10 ∨ op = 11 by omega) with rfl | rfl | rfl | rfl | rfl | rfl | rfl | rfl | rfl | rfl | rfl
    · exact in_add h1 h2 h3 h4
    · exact in_sub ht.2 kx h1 h2 h3 h4
    · exact in_mul h1 h2 h3 h4
    · exact in_div h1 h2 h3 h4
    · exact in_mod h1 h2 h3 h4
    · exact in_and h2 h4
    · exact in_or hs ht h1 h2 h3 h4
    · exact in_xor hs ht h2 h4
    · exact in_shl h1 h2 h3 h4
    · exact in_shr h1 h2 h3 h4
    · exact in_sar kx h1 h2 h3 h4

/-! ### Joins, meets, what is within -/
theorem l_jo_comm (s t : Sp) : joV s t = joV t s := by
  unfold joV
  rw [Bool.and_comm, Nat.min_comm, Nat.max_comm]
theorem l_joE_comm (s t : Sp) : joE s t = joE t s := by
  unfold joE
  rw [Bool.and_comm]
theorem l_me_comm (s t : Sp) : meV s t = meV t s := by
  unfold meV
  rw [Bool.and_comm, Nat.min_comm s.hi, Nat.max_comm s.lo]
theorem l_meE_comm (s t : Sp) : meE s t = meE t s := by
  unfold meE
  rw [Bool.and_comm, Nat.min_comm s.hi, Nat.max_comm s.lo]
theorem jo_ok0 {s t : Sp} (hs : mayV s = true) (ht : mayV t = true) : joE s t = 0 ∧ joV s t = ⟨min s.lo t.lo, max s.hi t.hi⟩ := by
  unfold joE joV
  simp [hs, ht]
theorem l_either {s t : Sp} (n : Nat) (hs : mayV s = true) (ht : mayV t = true) (h : (hasV s n || hasV t n) = true) : hasV (joV s t) n = true := by
  rw [(jo_ok0 hs ht).2]
  simp only [Bool.or_eq_true, has_iff] at h ⊢
  omega
theorem l_jo_has {s t : Sp} (hs : mayV s = true) (ht : mayV t = true) : wiV s (joV s t) = true := by
  rw [(jo_ok0 hs ht).2, wi_iff]
  rw [may_iff] at hs
  dsimp only
  omega
theorem l_both {s t : Sp} (n : Nat) (hs : mayV s = true) (ht : mayV t = true) : (hasV s n && hasV t n) = (decide (meE s t = 0) && hasV (meV s t) n) := by
  rw [Bool.eq_iff_iff]
  unfold meE meV
  rw [hs, ht]
  simp only [Bool.and_true, if_true, Bool.and_eq_true, decide_eq_true_eq, has_iff]
  split
  · dsimp only; omega
  · rename_i h
    constructor
    · intro k; omega
    · rintro ⟨k, -⟩; cases k
theorem l_me06 {s t : Sp} (hs : mayV s = true) (ht : mayV t = true) : meE s t = 0 ∨ meE s t = 6 := by
  unfold meE
  rw [hs, ht]
  simp only [Bool.and_true, if_true]
  split
  · exact .inl rfl
  · exact .inr rfl
theorem l_trans {s t u : Sp} (h : wiV s t = true) (k : wiV t u = true) : wiV s u = true := by
  rw [wi_iff] at *
  omega
theorem l_anti {s t : Sp} (h : wiV s t = true) (k : wiV t s = true) : s = t := by
  rw [wi_iff] at *
  obtain ⟨a, b⟩ := s
  obtain ⟨c, d⟩ := t
  simp only [Sp.mk.injEq] at *
  omega
theorem wi_may {s t : Sp} (h : wiV s t = true) : mayV s = true ∧ mayV t = true := by
  rw [wi_iff] at h
  rw [may_iff, may_iff]
  omega
theorem l_least {s t u : Sp} (h : wiV s u = true) (k : wiV t u = true) : wiV (joV s t) u = true := by
  rw [(jo_ok0 (wi_may h).1 (wi_may k).1).2]
  rw [wi_iff] at *
  dsimp only
  omega
theorem l_jo_mono {s t u v : Sp} (h : wiV s u = true) (k : wiV t v = true) : wiV (joV s t) (joV u v) = true := by
  rw [(jo_ok0 (wi_may h).1 (wi_may k).1).2, (jo_ok0 (wi_may h).2 (wi_may k).2).2]
  rw [wi_iff] at *
  dsimp only
  omega

/-! ### Sums and products are narrower of narrower spans -/
theorem wi_all {s : Sp} (h : s.ok) (m : s.lo ≤ s.hi) : wiV s spAll = true := by
  rw [wi_iff]
  exact ⟨m, Nat.zero_le _, Nat.le_of_lt_succ h.2⟩
theorem sd_may (op : Int) {s t : Sp} (hop : 1 ≤ op ∧ op ≤ 11) (hs : s.ok) (ht : t.ok) (ms : s.lo ≤ s.hi) (mt : t.lo ≤ t.hi) : (sdV op s t).lo ≤ (sdV op s t).hi :=
  may_iff.1 (l_sound op hop hs ht (x := s.lo) (y := t.lo) (has_iff.2 ⟨Nat.le_refl _, ms⟩) (has_iff.2 ⟨Nat.le_refl _, mt⟩)).1
/-- A single answer is what a member's is: within whatever has all of these. -/
theorem one_in (op : Int) {s t u v : Sp} (hop : 1 ≤ op ∧ op ≤ 11) (hu : u.ok) (hv : v.ok) (h : wiV s u = true) (k : wiV t v = true) (h1 : (isOne s && isOne t) = true) : wiV (sdV op s t) (sdV op u v) = true := by
  have m := wi_may h
  have m2 := wi_may k
  rw [wi_iff] at h k
  simp only [Bool.and_eq_true, one_iff] at h1
  have e : sdV op s t = one (doV op s.lo t.lo) := by
    unfold sdV
    rw [m.1, m2.1, if_pos (by rfl), if_pos (by simp only [Bool.and_eq_true, one_iff]; exact h1)]
  have := (l_sound op hop hu hv (x := s.lo) (y := t.lo) (has_iff.2 ⟨by omega, by omega⟩) (has_iff.2 ⟨by omega, by omega⟩)).2
  rw [has_iff] at this
  rw [e, wi_iff]
  exact ⟨Nat.le_refl _, this.1, this.2⟩
theorem sd_tab (op : Int) {s t : Sp} (ms : mayV s = true) (mt : mayV t = true) (h : (isOne s && isOne t) = false) : sdV op s t = tabV op s t := by
  unfold sdV
  rw [ms, mt, if_pos (by rfl), h, if_neg (by decide)]
theorem one_of {s t u v : Sp} (h : wiV s u = true) (k : wiV t v = true) (h1 : (isOne s && isOne t) = false) : (isOne u && isOne v) = false := by
  rw [wi_iff] at h k
  cases h2 : (isOne u && isOne v) with
  | false => rfl
  | true =>
    simp only [Bool.and_eq_true, one_iff] at h2
    have : (isOne s && isOne t) = true := by simp only [Bool.and_eq_true, one_iff]; omega
    rw [this] at h1
    cases h1
theorem l_add_mono {s t u v : Sp} (hs : s.ok) (ht : t.ok) (hu : u.ok) (hv : v.ok) (h : wiV s u = true) (k : wiV t v = true) : wiV (sdV 1 s t) (sdV 1 u v) = true := by
  have m := wi_may h
  have m2 := wi_may k
  cases h1 : (isOne s && isOne t) with
  | true => exact one_in 1 (by decide) hu hv h k h1
  | false =>
    have hm := sd_may 1 (by decide) hs ht (may_iff.1 m.1) (may_iff.1 m2.1)
    have ho := sd_ok 1 hs ht
    rw [sd_tab 1 m.1 m2.1 h1] at hm ho ⊢
    rw [sd_tab 1 m.2 m2.2 (one_of h k h1)]
    show wiV (addV s t) (addV u v) = true
    have e : tabV 1 s t = addV s t := rfl
    rw [e] at hm ho
    by_cases hh : u.hi + v.hi < 18446744073709551616
    · have e2 : addV u v = ⟨u.lo + v.lo, u.hi + v.hi⟩ := if_pos hh
      rw [wi_iff] at h k
      have e1 : addV s t = ⟨s.lo + t.lo, s.hi + t.hi⟩ := if_pos (by omega)
      rw [e1, e2, wi_iff]
      dsimp only
      omega
    · have e2 : addV u v = spAll := if_neg hh
      rw [e2]
      exact wi_all ho hm
theorem l_mul_mono {s t u v : Sp} (hs : s.ok) (ht : t.ok) (hu : u.ok) (hv : v.ok) (h : wiV s u = true) (k : wiV t v = true) : wiV (sdV 3 s t) (sdV 3 u v) = true := by
  have m := wi_may h
  have m2 := wi_may k
  cases h1 : (isOne s && isOne t) with
  | true => exact one_in 3 (by decide) hu hv h k h1
  | false =>
    have hm := sd_may 3 (by decide) hs ht (may_iff.1 m.1) (may_iff.1 m2.1)
    have ho := sd_ok 3 hs ht
    rw [sd_tab 3 m.1 m2.1 h1] at hm ho ⊢
    rw [sd_tab 3 m.2 m2.2 (one_of h k h1)]
    show wiV (mulV s t) (mulV u v) = true
    have e : tabV 3 s t = mulV s t := rfl
    rw [e] at hm ho
    by_cases hh : u.hi * v.hi < 18446744073709551616
    · have e2 : mulV u v = ⟨u.lo * v.lo, u.hi * v.hi⟩ := if_pos hh
      rw [wi_iff] at h k
      have a1 : s.hi * t.hi ≤ u.hi * v.hi := Nat.mul_le_mul h.2.2 k.2.2
      have a2 : u.lo * v.lo ≤ s.lo * t.lo := Nat.mul_le_mul h.2.1 k.2.1
      have a3 : s.lo * t.lo ≤ s.hi * t.hi := Nat.mul_le_mul h.1 k.1
      have e1 : mulV s t = ⟨s.lo * t.lo, s.hi * t.hi⟩ := if_pos (by omega)
      rw [e1, e2, wi_iff]
      exact ⟨a3, a2, a1⟩
    · have e2 : mulV u v = spAll := if_neg hh
      rw [e2]
      exact wi_all ho hm

/-! ### Numbers alone -/
theorem l_single (op : Int) (x y : Nat) : sdV op (one x) (one y) = one (doV op x y) := by
  simp [sdV, mayV, isOne, one]
theorem l_has_one (x y : Nat) : hasV (one x) y = decide (x = y) := by
  rw [Bool.eq_iff_iff, has_iff, decide_eq_true_eq]
  simp only [one]
  omega
theorem l_has_all {x : Nat} (h : x < 18446744073709551616) : hasV spAll x = true := has_iff.2 (has_all h)
theorem l_one_all {x : Nat} (h : x < 18446744073709551616) : wiV (one x) spAll = true := wi_iff.2 ⟨Nat.le_refl _, Nat.zero_le _, Nat.le_of_lt_succ h⟩
end Go.Proofs.YticgehmpfgdbhaaDoor
