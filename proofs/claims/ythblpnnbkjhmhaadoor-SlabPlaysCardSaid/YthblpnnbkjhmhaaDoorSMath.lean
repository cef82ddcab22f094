/- A slab's state in the mind: each page's class and its free blocks, the next one first; what taking and giving make of it. No condition. -/
import Derived.Test.YthblpnnbkjhmhaaDoorMath
import Derived.Test.YthblpnnbkjhmhaaDoorPMath
namespace Go.Proofs.YthblpnnbkjhmhaaDoor
open Go.RowKit
open Pool (num cnt upd)

/-- A page: its class (0: nobody's), its free blocks, the next one first. -/
abbrev St := Nat → Nat × List Nat

/-- The class of a size (from 1 to 256). -/
def clsOf (size : Int) : Nat := if size ≤ 16 then 16 else if size ≤ 32 then 32 else if size ≤ 64 then 64 else if size ≤ 128 then 128 else 256
def IsC (c : Nat) : Prop := c = 16 ∨ c = 32 ∨ c = 64 ∨ c = 128 ∨ c = 256
theorem clsOf_isC (x : Int) : IsC (clsOf x) := by unfold clsOf IsC; (repeat' split) <;> simp
theorem IsC.bd {c : Nat} (h : IsC c) : 16 ≤ c ∧ c ≤ 256 := by unfold IsC at h; omega
theorem IsC.mul {c : Nat} (h : IsC c) : 512 / c * c = 512 := by rcases h with rfl | rfl | rfl | rfl | rfl <;> rfl
theorem IsC.many {c : Nat} (h : IsC c) : 2 ≤ 512 / c ∧ 512 / c ≤ 32 := by rcases h with rfl | rfl | rfl | rfl | rfl <;> decide

/-- The block j of page i, of class c. -/
def blk (i c j : Nat) : Nat := 512 * i + j * c
def blks (i c : Nat) : List Nat := (List.range (512 / c)).map (blk i c)
theorem mem_blks {i c a : Nat} : a ∈ blks i c ↔ ∃ j, j < 512 / c ∧ a = blk i c j := by
  unfold blks
  rw [List.mem_map]
  constructor
  · rintro ⟨j, h, rfl⟩; exact ⟨j, by simpa using h, rfl⟩
  · rintro ⟨j, h, rfl⟩; exact ⟨j, by simpa using h, rfl⟩
theorem blk_le {i c j : Nat} (h : IsC c) (hj : j < 512 / c) : 512 * i ≤ blk i c j ∧ blk i c j + c ≤ 512 * i + 512 := by
  have := h.mul
  have h2 : (j + 1) * c ≤ 512 / c * c := Nat.mul_le_mul_right c hj
  rw [Nat.add_mul] at h2
  unfold blk
  omega
theorem blk_page {i c j : Nat} (h : IsC c) (hj : j < 512 / c) : blk i c j / 512 = i := by
  have := blk_le (i := i) h hj
  have := h.bd
  omega
theorem blk_off {i c j : Nat} (h : IsC c) (hj : j < 512 / c) : blk i c j % 512 = j * c := by
  have := blk_le (i := i) h hj
  have := h.bd
  unfold blk at *
  omega
theorem blk_idx {i c j : Nat} (h : IsC c) (hj : j < 512 / c) : blk i c j % 512 / c = j := by
  rw [blk_off h hj]
  have := h.bd
  exact Nat.mul_div_cancel j (by omega)
theorem blk_mod {i c j : Nat} (h : IsC c) : blk i c j % c = 0 := by
  unfold blk
  have h1 : 512 * i % c = 0 := by rcases h with rfl | rfl | rfl | rfl | rfl <;> omega
  rw [Nat.add_mod, h1, Nat.mul_mod_left]
  simp
theorem blk_inj {i c j k : Nat} (h : IsC c) (e : blk i c j = blk i c k) : j = k := by
  have := h.bd
  unfold blk at e
  exact Nat.eq_of_mul_eq_mul_right (by omega : 0 < c) (by omega)
/-- A place at a multiple of the class is a block. -/
theorem blk_of {a c : Nat} (h : IsC c) (hm : a % c = 0) : a % 512 / c < 512 / c ∧ a = blk (a / 512) c (a % 512 / c) := by
  have hb := h.bd
  have h1 : a % 512 % c = 0 := by rcases h with rfl | rfl | rfl | rfl | rfl <;> omega
  have h2 : a % 512 / c * c = a % 512 := by have := Nat.div_add_mod (a % 512) c; rw [Nat.mul_comm] at this; omega
  constructor
  · rcases h with rfl | rfl | rfl | rfl | rfl <;> omega
  · unfold blk; omega

/-- Is the block j of page i taken? -/
def tk (s : St) (i : Nat) : Nat → Bool := fun j => decide (j < 512 / (s i).1) && !decide (blk i (s i).1 j ∈ (s i).2)
/-- Is the page assigned, or 0? -/
def tkp (s : St) (n : Nat) : Nat → Bool := fun k => decide (k < n) && (decide (k = 0) || !decide ((s k).1 = 0))
def head0 (l : List Nat) : Nat := l.head?.getD 0
theorem head0_cons (a : Nat) (l : List Nat) : head0 (a :: l) = a := rfl
theorem head0_nil : head0 [] = 0 := rfl

/-- Whatever holds of a slab's state between two calls. -/
structure Inv0 (n : Nat) (s : St) : Prop where
  page0 : (s 0).1 = 0
  off : ∀ i, n ≤ i → (s i).1 = 0
  cls : ∀ i, (s i).1 = 0 ∨ IsC (s i).1
  none : ∀ i, (s i).1 = 0 → (s i).2 = []
  free : ∀ i, ∀ a ∈ (s i).2, a ∈ blks i (s i).1
  once : ∀ i, (s i).2.Nodup
structure Inv (n : Nat) (s : St) : Prop extends Inv0 n s where
  some : ∀ i, (s i).1 ≠ 0 → ∃ a, a ∈ blks i (s i).1 ∧ a ∉ (s i).2

/-- The links of a list of free blocks. -/
def Link (f : Nat → Int) : List Nat → Prop
  | [] => True
  | a :: l => ld f a 8 = (head0 l : Nat) ∧ Link f l
theorem Link.congr {f h : Nat → Int} : ∀ {l : List Nat}, Link f l → (∀ a ∈ l, ∀ k, a ≤ k → k < a + 8 → f k = h k) → Link h l
  | [], _, _ => trivial
  | a :: l, hl, e => ⟨by rw [← hl.1]; exact (ld_congr a 8 fun i h1 h2 => e a (by simp) i h1 h2).symm, Link.congr hl.2 fun b hb => e b (by simp [hb])⟩

/-- One page anew. -/
def put (s : St) (i : Nat) (p : Nat × List Nat) : St := fun k => if k = i then p else s k
theorem put_same (s : St) (i : Nat) (p : Nat × List Nat) : put s i p i = p := by simp [put]
theorem put_other (s : St) {i k : Nat} (p : Nat × List Nat) (h : k ≠ i) : put s i p k = s k := by simp [put, h]

/-- The page that a block of class c comes from, if one of them has it. -/
def has (s : St) (c : Nat) : Nat → Bool := fun i => decide ((s i).1 = c) && !decide ((s i).2 = [])
def pgOf (n : Nat) (s : St) (c : Nat) : Option Nat := (List.range n).find? (has s c)
/-- The lowest page that is nobody's. -/
def pgNew (n : Nat) (s : St) : Option Nat := (List.range n).find? fun i => decide (i ≠ 0) && decide ((s i).1 = 0)

/-- Taking out of page i. -/
def popG (s : St) (i : Nat) : St := put s i ((s i).1, (s i).2.tail)
def asg (s : St) (i c : Nat) : St := put s i (c, blks i c)

/-- Alloc: the page it takes of, the state ahead of the taking. -/
def alP (n : Nat) (s : St) (size : Int) : Option (Nat × St) :=
  match pgOf n s (clsOf size) with
  | some i => some (i, s)
  | none => match pgNew n s with
    | some i => some (i, asg s i (clsOf size))
    | none => none
def alOk (size : Int) : Bool := decide (1 ≤ size) && decide (size ≤ 256)
def alV (n : Nat) (s : St) (size : Int) : Int := if alOk size then match alP n s size with | some (i, s') => (head0 (s' i).2 : Nat) | none => 0 else 0
def alE (n : Nat) (s : St) (size : Int) : Int := if alOk size then match alP n s size with | some _ => 0 | none => 5 else 1
def alS (n : Nat) (s : St) (size : Int) : St := if alOk size then match alP n s size with | some (i, s') => popG s' i | none => s else s

/-- Is at the place of a taken block? -/
def isB (n : Nat) (s : St) (at_ : Int) : Bool :=
  decide (0 ≤ at_) && decide (at_ < (512 * n : Nat)) && !decide ((s (at_.toNat / 512)).1 = 0) && decide (at_.toNat % (s (at_.toNat / 512)).1 = 0) && !decide (at_.toNat ∈ (s (at_.toNat / 512)).2)
def bkV (n : Nat) (s : St) (at_ : Int) : Int := if isB n s at_ then ((s (at_.toNat / 512)).1 : Nat) else 0
def frE (n : Nat) (s : St) (at_ : Int) : Int := if isB n s at_ then 0 else 1
/-- All blocks of the page are free. -/
def allF (i c : Nat) (l : List Nat) : Bool := (blks i c).all fun a => decide (a ∈ l)
def givG (s : St) (i a : Nat) : St := if allF i (s i).1 (a :: (s i).2) then put s i (0, []) else put s i ((s i).1, a :: (s i).2)
def frS (n : Nat) (s : St) (at_ : Int) : St := if isB n s at_ then givG s (at_.toNat / 512) at_.toNat else s

def usd (s : St) : Nat → Nat
  | 0 => 0
  | k + 1 => usd s k + (s k).1 * cnt (tk s k) 32
def pgs (s : St) : Nat → Nat
  | 0 => 0
  | k + 1 => pgs s k + if (s k).1 = 0 then 0 else 1

/-- Is a a taken block of page i? -/
def Tkn (s : St) (i a : Nat) : Prop := a ∈ blks i (s i).1 ∧ a ∉ (s i).2
/-- Does the byte k lie in a taken block? -/
def inT (s : St) (k : Nat) : Prop := ∃ i a, Tkn s i a ∧ a ≤ k ∧ k < a + (s i).1

def st0 : St := fun _ => (0, [])
theorem inv0 (n : Nat) : Inv n st0 := ⟨⟨rfl, fun _ _ => rfl, fun _ => .inl rfl, fun _ _ => rfl, fun _ _ h => (nomatch h), fun _ => List.nodup_nil⟩, fun _ h => absurd rfl h⟩
end Go.Proofs.YthblpnnbkjhmhaaDoor
