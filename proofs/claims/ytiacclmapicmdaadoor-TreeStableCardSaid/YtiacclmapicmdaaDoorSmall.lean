/- The contracts of the arena's small functions: isWidth, memory, Len, part. Conditions: the table of widths lies in its block as the text lays it; the arena's blocks are known. -/
import Derived.Test.YtiacclmapicmdaaDoorProg
import Derived.Test.YtiacclmapicmdaaDoorWords
import Derived.WalkLawsBesides
import Derived.Lib.Hide
namespace Go.Proofs.YtiacclmapicmdaaDoor
open Go.RowKit

/-- The table of widths lies in its block. -/
def Tab (w : World) : Prop := ∃ t fr, w.heap[0]? = some (.cells #[.int .i64 1, .int .i64 2, .int .i64 4, .int .i64 8] t fr)
theorem Tab.below {B : Nat} {w w' : World} (h : Tab w) (hb : Below B w w') (hB : 0 < B) : Tab w' := by
  obtain ⟨t, fr, e⟩ := h
  exact ⟨t, fr, (hb.block _ hB).trans e⟩

/-- Is it a width? -/
def isW (x : Int) : Bool := x == 1 || x == 2 || x == 4 || x == 8

set_option maxRecDepth 100000 in
theorem isWidth_any (x : Int) (w : World) (hT : Tab w) :
    Calls Tryd.prog 55 #[.int .i64 x] w fun e w' => e = .returned (.bool (isW x)) ∧ w = w' := by
  obtain ⟨t, fr, hg⟩ := hT
  have i0 : ∀ w : World, (Instr.index 93 (.agg #[.int .i64 1, .int .i64 2, .int .i64 4, .int .i64 8]) (.int .i64 0)).run Tryd.prog w = .ok (.int .i64 1) w := fun _ => by kernel_rfl
  have i1 : ∀ w : World, (Instr.index 93 (.agg #[.int .i64 1, .int .i64 2, .int .i64 4, .int .i64 8]) (.int .i64 1)).run Tryd.prog w = .ok (.int .i64 2) w := fun _ => by kernel_rfl
  have i2 : ∀ w : World, (Instr.index 93 (.agg #[.int .i64 1, .int .i64 2, .int .i64 4, .int .i64 8]) (.int .i64 2)).run Tryd.prog w = .ok (.int .i64 4) w := fun _ => by kernel_rfl
  have i3 : ∀ w : World, (Instr.index 93 (.agg #[.int .i64 1, .int .i64 2, .int .i64 4, .int .i64 8]) (.int .i64 3)).run Tryd.prog w = .ok (.int .i64 8) w := fun _ => by kernel_rfl
  go_enter Tryd.func55, Tryd.ntmps55
  go_wp2_with (refine wpList_load_row rfl 93 _ rfl 0 rfl t _ fr _ hg Tryd.underlying93 rfl (by kernel_rfl) ?_)
  go_loop [6] (fun i => ∃ k : Nat, k ≤ 4 ∧ i = .int .i64 k ∧ (1 ≤ k → x ≠ 1) ∧ (2 ≤ k → x ≠ 2) ∧ (3 ≤ k → x ≠ 4) ∧ (4 ≤ k → x ≠ 8)) (fun i => 4 - (intOf i).toNat)
  case atStart => exact ⟨0, Nat.zero_le _, rfl, by omega, by omega, by omega, by omega⟩
  case round =>
    obtain ⟨k, hk, rfl, h1, h2, h3, h4⟩ := hrel
    have hk5 : k = 0 ∨ k = 1 ∨ k = 2 ∨ k = 3 ∨ k = 4 := by omega
    rcases hk5 with rfl | rfl | rfl | rfl | rfl
    · by_cases hx : x = 1
      · subst hx; clear h1 h2 h3 h4; go_wp2; go_ret; exact ⟨rfl, rfl⟩
      · clear h1 h2 h3 h4
        go_wp2
        go_round
        case rel => exact ⟨1, by omega, rfl, by omega, by omega, by omega, by omega⟩
        case measure => simp [intOf]
    · by_cases hx : x = 2
      · subst hx; clear h1 h2 h3 h4; go_wp2; go_ret; exact ⟨rfl, rfl⟩
      · clear h2 h3 h4
        have h1 := h1 (by omega)
        go_wp2
        go_round
        case rel => exact ⟨2, by omega, rfl, by omega, by omega, by omega, by omega⟩
        case measure => simp [intOf]
    · by_cases hx : x = 4
      · subst hx; clear h1 h2 h3 h4; go_wp2; go_ret; exact ⟨rfl, rfl⟩
      · clear h3 h4
        have h1 := h1 (by omega)
        have h2 := h2 (by omega)
        go_wp2
        go_round
        case rel => exact ⟨3, by omega, rfl, by omega, by omega, by omega, by omega⟩
        case measure => simp [intOf]
    · by_cases hx : x = 8
      · subst hx; clear h1 h2 h3 h4; go_wp2; go_ret; exact ⟨rfl, rfl⟩
      · clear h4
        have h1 := h1 (by omega)
        have h2 := h2 (by omega)
        have h3 := h3 (by omega)
        go_wp2
        go_round
        case rel => exact ⟨4, by omega, rfl, by omega, by omega, by omega, by omega⟩
        case measure => simp [intOf]
    · have hF : isW x = false := by
        have h1 := h1 (by omega)
        have h2 := h2 (by omega)
        have h3 := h3 (by omega)
        have h4 := h4 (by omega)
        simp [isW, h1, h2, h3, h4]
      clear h1 h2 h3 h4
      go_wp2
      go_ret
      exact ⟨rfl, rfl⟩

/-- The memory of an arena that is nil: none. -/
theorem memory_nil (w : World) :
    Calls Tryd.prog 60 #[.pointer none] w fun e w' => e = .returned (.slice none 0 0) ∧ w = w' := by
  go_enter Tryd.func60, Tryd.ntmps60
  go_wp2
  go_ret
  exact ⟨rfl, rfl⟩
theorem memory_at (p : Nat) (A : Option Addr) (n c : Nat) (w : World) (h : Blk w p 90 #[.slice A n c]) :
    Calls Tryd.prog 60 #[.pointer (some ⟨p, 0, none⟩)] w fun e w' => e = .returned (.slice A n c) ∧ w = w' := by
  have hc : w.cell? ⟨p, 0, none⟩ = some (.slice A n c) := h.cell 0
  clear h
  go_enter Tryd.func60, Tryd.ntmps60
  go_wp2
  go_ret
  exact ⟨rfl, rfl⟩

/-- What an arena's pointer leads to: nothing, or a block that holds a slice. -/
def Mem (w : World) (a A : Option Addr) (n : Nat) : Prop := (a = none ∧ A = none ∧ n = 0) ∨ ∃ p, a = some ⟨p, 0, none⟩ ∧ Blk w p 90 #[.slice A n n]

theorem memory_any (a A : Option Addr) (n : Nat) (w : World) (h : Mem w a A n) :
    Calls Tryd.prog 60 #[.pointer a] w fun e w' => e = .returned (.slice A n n) ∧ w = w' := by
  rcases h with ⟨rfl, rfl, rfl⟩ | ⟨p, rfl, h⟩
  · exact memory_nil w
  · exact memory_at p A n n w h

theorem len_any (a A : Option Addr) (n : Nat) (w : World) (h : Mem w a A n) :
    Calls Tryd.prog 57 #[.pointer a] w fun e w' => e = .returned (.int .i64 n) ∧ w = w' := by
  have H := Lib.hid h
  clear h
  go_enter Tryd.func57, Tryd.ntmps57
  go_wp2_with (go_at_call 60; refine (memory_any _ _ _ _ H.out).mono ?_; rintro e w' ⟨rfl, rfl⟩)
  go_ret
  exact ⟨rfl, rfl⟩

/-- The error of n bytes at a place among so many. -/
def fits (N : Nat) (at_ n : Int) : Int := if n < 0 then 1 else if at_ < 0 ∨ (N : Int) - n < at_ then 4 else 0

theorem part_neg (a : Option Addr) (at_ n : Int) (w : World) (hn : n < 0) :
    Calls Tryd.prog 56 #[.pointer a, .int .i64 at_, .int .i64 n] w fun e w' => e = .returned (.tuple #[.slice none 0 0, .int .i64 1]) ∧ w = w' := by
  go_enter Tryd.func56, Tryd.ntmps56
  go_wp2
  go_ret2
  exact ⟨rfl, rfl⟩
theorem part_far (a A : Option Addr) (N : Nat) (at_ n : Int) (w : World) (h : Mem w a A N) (hN : N ≤ 65536) (hn : 0 ≤ n) (hn2 : n ≤ 9223372036854775807) (hf : at_ < 0 ∨ (N : Int) - n < at_) :
    Calls Tryd.prog 56 #[.pointer a, .int .i64 at_, .int .i64 n] w fun e w' => e = .returned (.tuple #[.slice none 0 0, .int .i64 4]) ∧ w = w' := by
  have H := Lib.hid h
  clear h
  rcases hf with hf | hf
  · go_enter Tryd.func56, Tryd.ntmps56
    go_wp2
    go_ret2
    exact ⟨rfl, rfl⟩
  · by_cases h0 : at_ < 0
    · go_enter Tryd.func56, Tryd.ntmps56
      go_wp2
      go_ret2
      exact ⟨rfl, rfl⟩
    · go_enter Tryd.func56, Tryd.ntmps56
      go_wp2_with (go_at_call 57; refine (len_any _ _ _ _ H.out).mono ?_; rintro e w' ⟨rfl, rfl⟩)
      go_ret2
      exact ⟨rfl, rfl⟩
/-- Where a part of the memory begins. -/
def partA (A : Option Addr) (N at_ : Nat) : Option Addr := if N = at_ then A else A.map (·.add at_)
theorem part_near (a A : Option Addr) (N at_ n : Nat) (w : World) (h : Mem w a A N) (hN : N ≤ 65536) (hf : at_ + n ≤ N) :
    Calls Tryd.prog 56 #[.pointer a, .int .i64 at_, .int .i64 n] w fun e w' => e = .returned (.tuple #[.slice (partA A N at_) n (N - at_), .int .i64 0]) ∧ w = w' := by
  have H := Lib.hid h
  clear h
  go_enter Tryd.func56, Tryd.ntmps56
  go_wp2_with (first | (go_at_call 57; refine (len_any _ _ _ _ H.out).mono ?_; rintro e w' ⟨rfl, rfl⟩) | (go_at_call 60; refine (memory_any _ _ _ _ H.out).mono ?_; rintro e w' ⟨rfl, rfl⟩))
  all_goals go_ret2
  · exact ⟨by simp [partA], rfl⟩
  · have hne : ¬ N = at_ := by assumption
    exact ⟨by simp [partA, hne], rfl⟩
end Go.Proofs.YtiacclmapicmdaaDoor
