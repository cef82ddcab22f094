/- The contracts of the pool's small functions: OnesCount64, mask, Len, has, Taken, New. Condition: the pool's block is known. -/
import Derived.Test.YthbmheokbekdeaaProg
import Derived.Test.YthbmheokbekdeaaWords
import Derived.Test.YthbmheokbekdeaaPMath
import Derived.WalkLawsBesides
import Derived.Lib.Hide
import Derived.Deep.QuietTactic
import Derived.BigQuiet
import Derived.IntWalk
namespace Go.Proofs.Ythbmheokbekdeaa
open Go.RowKit

theorem quiet_same {P : Program} {f : FuncId} {args : Array Value} {w : World} {n : Nat} {v : Value}
    (h : Calls P f args (w.drewN n) fun e w' => e = .returned v ∧ w.drewN n = w') : Calls P f args (w.drewN n) fun e w'' => e = .returned v ∧ ∃ m, w'' = w.drewN m :=
  h.mono fun _ _ ⟨he, hm⟩ => ⟨he, n, hm.symm⟩
/-- The words of a pool. -/
def words (n : Nat) (t : Nat → Bool) : Array Value := #[.int .i64 n, .int .u64 (num t 64 : Nat), .int .u64 (num (sh t 64) 64 : Nat)]
/-- A pool of n pages, t of them taken: in block p. -/
structure Pl (w : World) (p n : Nat) (t : Nat → Bool) : Prop where
  blk : Blk w p 50 (words n t)
  small : n ≤ 128
  off : ∀ i, n ≤ i → t i = false
/-- What a pool's pointer leads to: nothing, or a pool. -/
def Po (w : World) (a : Option Addr) (n : Nat) (t : Nat → Bool) : Prop := (a = none ∧ n = 0 ∧ t = fun _ => false) ∨ ∃ p, a = some ⟨p, 0, none⟩ ∧ Pl w p n t

section
variable {w w' : World} {p n : Nat} {t : Nat → Bool}
theorem Pl.c0 (h : Pl w p n t) : w.cell? ⟨p, 0, none⟩ = some (.int .i64 n) := h.blk.cell 0
theorem Pl.c1 (h : Pl w p n t) : w.cell? ⟨p, 1, none⟩ = some (.int .u64 (num t 64 : Nat)) := h.blk.cell 1
theorem Pl.c2 (h : Pl w p n t) : w.cell? ⟨p, 2, none⟩ = some (.int .u64 (num (sh t 64) 64 : Nat)) := h.blk.cell 2
theorem Pl.po (h : Pl w p n t) : Po w (some ⟨p, 0, none⟩) n t := .inr ⟨p, rfl, h⟩
theorem Po.small {a : Option Addr} (h : Po w a n t) : n ≤ 128 := by
  rcases h with ⟨_, rfl, _⟩ | ⟨_, _, h⟩
  · decide
  · exact h.small
theorem Po.off {a : Option Addr} (h : Po w a n t) (i : Nat) (hi : n ≤ i) : t i = false := by
  rcases h with ⟨_, _, rfl⟩ | ⟨_, _, h⟩
  · rfl
  · exact h.off i hi
theorem Pl.drew (h : Pl w p n t) (m : Nat) : Pl (w.drewN m) p n t := ⟨h.blk, h.small, h.off⟩
theorem Po.drew {a : Option Addr} (h : Po w a n t) (m : Nat) : Po (w.drewN m) a n t := by
  rcases h with h | ⟨p, e, h⟩
  · exact .inl h
  · exact .inr ⟨p, e, h.drew m⟩
theorem Pl.below {B : Nat} (h : Pl w p n t) (hb : Below B w w') (hp : p < B) : Pl w' p n t := ⟨h.blk.below hb hp, h.small, h.off⟩
theorem Pl.only {g : Nat} (h : Pl w p n t) (hb : Only g w w') (hp : p ≠ g) : Pl w' p n t := ⟨h.blk.only hb hp, h.small, h.off⟩
end

section
variable {w : World}
theorem wrap64 (x : Nat) (h : x < 18446744073709551616) : IntKind.u64.wrap (x : Int) = x := by rw [IntKind.wrap_u64]; omega
theorem and127 (t : Nat) (h : t < 18446744073709551616) : bits .and .i64 (RowKit.wrap64 (t : Int)) 127 = ((t % 128 : Nat) : Int) := by
  have h1 : (BitVec.ofInt 64 (RowKit.wrap64 (t : Int))).toNat = t := by
    rw [BitVec.toNat_ofInt]
    unfold RowKit.wrap64
    omega
  have h2 : (BitVec.ofInt 64 (127 : Int)).toNat = 2 ^ 7 - 1 := by decide
  show IntKind.i64.wrap ((BitVec.ofInt 64 (RowKit.wrap64 (t : Int)) &&& BitVec.ofInt 64 (127 : Int)).toNat : Int) = _
  rw [BitVec.toNat_and, h1, h2, Nat.and_two_pow_sub_one_eq_mod]
  exact IntWalk.i64_in _ (by omega)
theorem onesCount_any (f : Nat → Bool) :
    Calls Try.prog 25 #[.int .u64 (num f 64 : Nat)] w fun e w' => e = .returned (.int .i64 (cnt f 64 : Nat)) ∧ w = w' := by
  have hX := num_lt64 f
  have hp := pop64 f _ _ _ _ _ _ rfl rfl rfl rfl rfl rfl
  have hle := cnt_le f 64
  generalize num f 64 = X at hX hp
  generalize cnt f 64 = c at hp hle
  obtain ⟨x1, h1⟩ : ∃ x1, x1 = ((X / 2) &&& 6148914691236517205) + (X &&& 6148914691236517205) := ⟨_, rfl⟩
  rw [← h1] at hp
  obtain ⟨x2, h2⟩ : ∃ x2, x2 = ((x1 / 4) &&& 3689348814741910323) + (x1 &&& 3689348814741910323) := ⟨_, rfl⟩
  rw [← h2] at hp
  obtain ⟨x3, h3⟩ : ∃ x3, x3 = (x2 / 16 + x2) &&& 1085102592571150095 := ⟨_, rfl⟩
  rw [← h3] at hp
  obtain ⟨y, hy⟩ : ∃ y, y = x3 + x3 / 256 := ⟨_, rfl⟩
  rw [← hy] at hp
  obtain ⟨z, hz⟩ : ∃ z, z = y + y / 65536 := ⟨_, rfl⟩
  rw [← hz] at hp
  obtain ⟨t, ht⟩ : ∃ t, t = z + z / 4294967296 := ⟨_, rfl⟩
  rw [← ht] at hp
  obtain ⟨p0, p1, p2, p3, p4, p5, p6⟩ := hp
  have a1 : bits .and .u64 ((X : Int) / 2) 6148914691236517205 = (((X / 2) &&& 6148914691236517205 : Nat) : Int) := u64_and_nat (X / 2) 6148914691236517205 (by omega) (by decide)
  have a2 : bits .and .u64 (X : Int) 6148914691236517205 = ((X &&& 6148914691236517205 : Nat) : Int) := u64_and_nat X 6148914691236517205 hX (by decide)
  have e1 : IntKind.u64.wrap (bits .and .u64 ((X : Int) / 2) 6148914691236517205 + bits .and .u64 (X : Int) 6148914691236517205) = (x1 : Int) := by
    rw [a1, a2, ← Int.natCast_add, ← h1, wrap64 _ p1]
  clear a1 a2
  have a1 : bits .and .u64 ((x1 : Int) / 4) 3689348814741910323 = (((x1 / 4) &&& 3689348814741910323 : Nat) : Int) := u64_and_nat (x1 / 4) 3689348814741910323 (by omega) (by decide)
  have a2 : bits .and .u64 (x1 : Int) 3689348814741910323 = ((x1 &&& 3689348814741910323 : Nat) : Int) := u64_and_nat x1 3689348814741910323 p1 (by decide)
  have e2 : IntKind.u64.wrap (bits .and .u64 ((x1 : Int) / 4) 3689348814741910323 + bits .and .u64 (x1 : Int) 3689348814741910323) = (x2 : Int) := by
    rw [a1, a2, ← Int.natCast_add, ← h2, wrap64 _ (by omega)]
  clear a1 a2
  have e3 : bits .and .u64 (IntKind.u64.wrap ((x2 : Int) / 16 + (x2 : Int))) 1085102592571150095 = (x3 : Int) := by
    have e : (x2 : Int) / 16 + (x2 : Int) = ((x2 / 16 + x2 : Nat) : Int) := by omega
    rw [e, wrap64 _ p2, h3]
    exact u64_and_nat _ 1085102592571150095 p2 (by decide)
  have e4 : IntKind.u64.wrap ((x3 : Int) + (x3 : Int) / 256) = (y : Int) := by
    have e : (x3 : Int) + (x3 : Int) / 256 = (y : Int) := by omega
    rw [e, wrap64 _ p4]
  have e5 : IntKind.u64.wrap ((y : Int) + (y : Int) / 65536) = (z : Int) := by
    have e : (y : Int) + (y : Int) / 65536 = (z : Int) := by omega
    rw [e, wrap64 _ p5]
  have e6 : IntKind.u64.wrap ((z : Int) + (z : Int) / 4294967296) = (t : Int) := by
    have e : (z : Int) + (z : Int) / 4294967296 = (t : Int) := by omega
    rw [e, wrap64 _ p6]
  clear h1 h2 h3 hy hz ht p1 p2 p3 p4 p5 hX
  have H0 := Lib.hid p0
  clear p0
  go_enter Try.func25, Try.ntmps25
  go_wp2
  go_ret
  exact ⟨by rw [← H0.out, ← and127 t p6]; rfl, rfl⟩

theorem mask_any (k : Nat) (hk : k < 128) :
    Calls Try.prog 23 #[.int .i64 k] w fun e w' => e = .returned (.int .u64 (mk64 k : Nat)) ∧ w = w' := by
  have e : IntKind.u64.wrap (2 ^ (k % 64)) = ((mk64 k : Nat) : Int) := by
    have := wrap64 (mk64 k) (mk64_lt k)
    simpa [mk64] using this
  have H := Lib.hid e
  clear e
  go_enter Try.func23, Try.ntmps23
  go_wp2
  go_ret
  exact ⟨by rw [← H.out]; rfl, rfl⟩

theorem len_any (a : Option Addr) (n : Nat) (t : Nat → Bool) (h : Po w a n t) :
    Calls Try.prog 19 #[.pointer a] w fun e w' => e = .returned (.int .i64 n) ∧ w = w' := by
  rcases h with ⟨rfl, rfl, _⟩ | ⟨p, rfl, h⟩
  · go_enter Try.func19, Try.ntmps19
    go_wp2
    go_ret
    exact ⟨rfl, rfl⟩
  · have h0 := h.c0
    clear h
    go_enter Try.func19, Try.ntmps19
    go_wp2
    go_ret
    exact ⟨rfl, rfl⟩
end
end Go.Proofs.Ythbmheokbekdeaa
