/- The contracts of the pool's small functions: OnesCount64, mask, Len, has, Taken, New. Condition: the pool's block is known. -/
import Derived.Test.YthblpnnbkjhmhaaDoorProg
import Derived.Test.YthblpnnbkjhmhaaDoorWords
import Derived.Test.YthblpnnbkjhmhaaDoorPMath
import Derived.WalkLawsBesides
import Derived.Lib.Hide
import Derived.Deep.QuietTactic
import Derived.BigQuiet
import Derived.IntWalk
namespace Go.Proofs.YthblpnnbkjhmhaaDoor.Pool
open Go.RowKit

theorem quiet_same {P : Program} {f : FuncId} {args : Array Value} {w : World} {n : Nat} {v : Value}
    (h : Calls P f args (w.drewN n) fun e w' => e = .returned v ∧ w.drewN n = w') : Calls P f args (w.drewN n) fun e w'' => e = .returned v ∧ ∃ m, w'' = w.drewN m :=
  h.mono fun _ _ ⟨he, hm⟩ => ⟨he, n, hm.symm⟩
/-- The words of a pool. -/
def words (n : Nat) (t : Nat → Bool) : Array Value := #[.int .i64 n, .int .u64 (num t 64 : Nat), .int .u64 (num (sh t 64) 64 : Nat)]
/-- A pool of n pages, t of them taken: in block p. -/
structure Pl (w : World) (p n : Nat) (t : Nat → Bool) : Prop where
  blk : Blk w p 87 (words n t)
  small : n ≤ 128
  off : ∀ i, n ≤ i → t i = false
/-- What a pool's pointer leads to: nothing, or a pool. -/
def Po (w : World) (a : Option Addr) (n : Nat) (t : Nat → Bool) : Prop := (a = none ∧ n = 0 ∧ t = fun _ => false) ∨ ∃ p, a = some ⟨p, 0, none⟩ ∧ Pl w p n t

section
variable {w w' : World} {p n : Nat} {t : Nat → Bool}
theorem Pl.c0 (h : Pl w p n t) : w.cell? ⟨p, 0, none⟩ = some (.int .i64 n) := h.blk.cell 0
theorem Pl.c1 (h : Pl w p n t) : w.cell? ⟨p, 1, none⟩ = some (.int .u64 (num t 64 : Nat)) := h.blk.cell 1
theorem Pl.c2 (h : Pl w p n t) : w.cell? ⟨p, 2, none⟩ = some (.int .u64 (num (sh t 64) 64 : Nat)) := h.blk.cell 2
theorem Pl.po (h : Pl w p n t) : Po w (some ⟨p, 0, none⟩) n t := .inr ⟨p, rfl, h⟩
theorem Po.small {a : Option Addr} (h : Po w a n t) : n ≤ 128 := by
  rcases h with ⟨_, rfl, _⟩ | ⟨_, _, h⟩
  · decide
  · exact h.small
theorem Po.off {a : Option Addr} (h : Po w a n t) (i : Nat) (hi : n ≤ i) : t i = false := by
  rcases h with ⟨_, _, rfl⟩ | ⟨_, _, h⟩
  · rfl
  · exact h.off i hi
theorem Pl.drew (h : Pl w p n t) (m : Nat) : Pl (w.drewN m) p n t := ⟨h.blk, h.small, h.off⟩
theorem Po.drew {a : Option Addr} (h : Po w a n t) (m : Nat) : Po (w.drewN m) a n t := by
  rcases h with h | ⟨p, e, h⟩
  · exact .inl h
  · exact .inr ⟨p, e, h.drew m⟩
theorem Pl.below {B : Nat} (h : Pl w p n t) (hb : Below B w w') (hp : p < B) : Pl w' p n t := ⟨h.blk.below hb hp, h.small, h.off⟩
theorem Pl.only {g : Nat} (h : Pl w p n t) (hb : Only g w w') (hp : p ≠ g) : Pl w' p n t := ⟨h.blk.only hb hp, h.small, h.off⟩
end

section
variable {w : World}
theorem wrap64 (x : Nat) (h : x < 18446744073709551616) : IntKind.u64.wrap (x : Int) = x := by rw [IntKind.wrap_u64]; omega
theorem and127 (t : Nat) (h : t < 18446744073709551616) : bits .and .i64 (RowKit.wrap64 (t : Int)) 127 = ((t % 128 : Nat) : Int) := by
  have h1 : (BitVec.ofInt 64 (RowKit.wrap64 (t : Int))).toNat = t := by
    rw [BitVec.toNat_ofInt]
    unfold RowKit.wrap64
    omega
  have h2 : (BitVec.ofInt 64 (127 : Int)).toNat = 2 ^ 7 - 1 := by decide
  show IntKind.i64.wrap ((BitVec.ofInt 64 (RowKit.wrap64 (t : Int)) &&& BitVec.ofInt 64 (127 : Int)).toNat : Int) = _
  rw [BitVec.toNat_and, h1, h2, Nat.and_two_pow_sub_one_eq_mod]
  exact IntWalk.i64_in _ (by omega)

theorem mask_any (k : Nat) (hk : k < 128) :
    Calls Tryd.prog 47 #[.int .i64 k] w fun e w' => e = .returned (.int .u64 (mk64 k : Nat)) ∧ w = w' := by
  have e : IntKind.u64.wrap (2 ^ (k % 64)) = ((mk64 k : Nat) : Int) := by
    have := wrap64 (mk64 k) (mk64_lt k)
    simpa [mk64] using this
  have H := Lib.hid e
  clear e
  go_enter Tryd.func47, Tryd.ntmps47
  go_wp2
  go_ret
  exact ⟨by rw [← H.out]; rfl, rfl⟩

theorem len_any (a : Option Addr) (n : Nat) (t : Nat → Bool) (h : Po w a n t) :
    Calls Tryd.prog 52 #[.pointer a] w fun e w' => e = .returned (.int .i64 n) ∧ w = w' := by
  rcases h with ⟨rfl, rfl, _⟩ | ⟨p, rfl, h⟩
  · go_enter Tryd.func52, Tryd.ntmps52
    go_wp2
    go_ret
    exact ⟨rfl, rfl⟩
  · have h0 := h.c0
    clear h
    go_enter Tryd.func52, Tryd.ntmps52
    go_wp2
    go_ret
    exact ⟨rfl, rfl⟩
end
end Go.Proofs.YthblpnnbkjhmhaaDoor.Pool
