/- The contracts of the slab's small functions: classOf, all, Arena, bit, push. Conditions: the tables of classes and widths lie in their blocks; the slab's blocks are known. -/
import Derived.Test.YthblpnnbkjhmhaaDoorSRaw
import Derived.StillTailTactics
namespace Go.Proofs.YthblpnnbkjhmhaaDoor
open Go.RowKit
open Pool (num cnt upd Pl)

/-- The table of classes lies in its block. -/
def Cl (w : World) : Prop := ∃ t fr, w.heap[0]? = some (.cells #[.int .i64 16, .int .i64 32, .int .i64 64, .int .i64 128, .int .i64 256] t fr)
theorem Cl.below {B : Nat} {w w' : World} (h : Cl w) (hb : Below B w w') (hB : 0 < B) : Cl w' := by
  obtain ⟨t, fr, e⟩ := h
  exact ⟨t, fr, (hb.block _ hB).trans e⟩

theorem clsOf_16 {x : Int} (h : x ≤ 16) : clsOf x = 16 := by simp [clsOf, h]
theorem clsOf_32 {x : Int} (h : 16 < x) (h2 : x ≤ 32) : clsOf x = 32 := by unfold clsOf; rw [if_neg (by omega), if_pos h2]
theorem clsOf_64 {x : Int} (h : 32 < x) (h2 : x ≤ 64) : clsOf x = 64 := by unfold clsOf; rw [if_neg (by omega), if_neg (by omega), if_pos h2]
theorem clsOf_128 {x : Int} (h : 64 < x) (h2 : x ≤ 128) : clsOf x = 128 := by unfold clsOf; rw [if_neg (by omega), if_neg (by omega), if_neg (by omega), if_pos h2]
theorem clsOf_256 {x : Int} (h : 128 < x) : clsOf x = 256 := by unfold clsOf; rw [if_neg (by omega), if_neg (by omega), if_neg (by omega), if_neg (by omega)]
theorem clsOf_le {x : Int} (h : x ≤ 256) : x ≤ clsOf x := by unfold clsOf; (repeat' split) <;> omega
def cofV (x : Int) : Int := if alOk x then (clsOf x : Nat) else 0
theorem cof_yes {x : Int} {c : Nat} (h : 1 ≤ x) (h2 : x ≤ 256) (hc : clsOf x = c) : cofV x = c ∧ alOk x = true := by
  have : alOk x = true := by simp [alOk, h, h2]
  exact ⟨by rw [cofV, if_pos this, hc], this⟩
theorem cof_no {x : Int} (h : x < 1 ∨ 256 < x) : cofV x = 0 ∧ alOk x = false := by
  have : alOk x = false := by simp [alOk]; omega
  exact ⟨by rw [cofV, this]; rfl, this⟩

section
variable {w : World}
set_option maxRecDepth 100000 in
theorem classOf_any (x : Int) (hT : Cl w) :
    Calls Tryd.prog 31 #[.int .i64 x] w fun e w' => e = .returned (.tuple #[.int .i64 (cofV x), .bool (alOk x)]) ∧ w = w' := by
  obtain ⟨t, fr, hg⟩ := hT
  have i0 : ∀ w : World, (Instr.index 88 (.agg #[.int .i64 16, .int .i64 32, .int .i64 64, .int .i64 128, .int .i64 256]) (.int .i64 0)).run Tryd.prog w = .ok (.int .i64 16) w := fun _ => by kernel_rfl
  have i1 : ∀ w : World, (Instr.index 88 (.agg #[.int .i64 16, .int .i64 32, .int .i64 64, .int .i64 128, .int .i64 256]) (.int .i64 1)).run Tryd.prog w = .ok (.int .i64 32) w := fun _ => by kernel_rfl
  have i2 : ∀ w : World, (Instr.index 88 (.agg #[.int .i64 16, .int .i64 32, .int .i64 64, .int .i64 128, .int .i64 256]) (.int .i64 2)).run Tryd.prog w = .ok (.int .i64 64) w := fun _ => by kernel_rfl
  have i3 : ∀ w : World, (Instr.index 88 (.agg #[.int .i64 16, .int .i64 32, .int .i64 64, .int .i64 128, .int .i64 256]) (.int .i64 3)).run Tryd.prog w = .ok (.int .i64 128) w := fun _ => by kernel_rfl
  have i4 : ∀ w : World, (Instr.index 88 (.agg #[.int .i64 16, .int .i64 32, .int .i64 64, .int .i64 128, .int .i64 256]) (.int .i64 4)).run Tryd.prog w = .ok (.int .i64 256) w := fun _ => by kernel_rfl
  by_cases hx1 : x < 1
  · obtain ⟨e1, e2⟩ := cof_no (.inl hx1)
    rw [e1, e2]
    go_enter Tryd.func31, Tryd.ntmps31
    go_wp2
    go_ret2
    exact ⟨rfl, rfl⟩
  go_enter Tryd.func31, Tryd.ntmps31
  go_wp2_with (refine wpList_load_row rfl 88 _ rfl 0 rfl t _ fr _ hg Tryd.underlying88 rfl (by kernel_rfl) ?_)
  go_loop [9] (fun i => ∃ k : Nat, k ≤ 5 ∧ i = .int .i64 k ∧ (1 ≤ k → 16 < x) ∧ (2 ≤ k → 32 < x) ∧ (3 ≤ k → 64 < x) ∧ (4 ≤ k → 128 < x) ∧ (5 ≤ k → 256 < x)) (fun i => 5 - (intOf i).toNat)
  case atStart => exact ⟨0, Nat.zero_le _, rfl, by omega, by omega, by omega, by omega, by omega⟩
  case round =>
    obtain ⟨k, hk, rfl, h1, h2, h3, h4, h5⟩ := hrel
    have hk5 : k = 0 ∨ k = 1 ∨ k = 2 ∨ k = 3 ∨ k = 4 ∨ k = 5 := by omega
    rcases hk5 with rfl | rfl | rfl | rfl | rfl | rfl
    · clear h1 h2 h3 h4 h5
      by_cases hx : x ≤ 16
      · obtain ⟨e1, e2⟩ := cof_yes (by omega) (by omega) (clsOf_16 hx)
        have E1 := Lib.hid e1; have E2 := Lib.hid e2; clear e1 e2; go_wp2; go_ret2; exact ⟨by rw [E1.out, E2.out] <;> rfl, rfl⟩
      · go_wp2
        go_round
        case rel => exact ⟨1, by omega, rfl, by omega, by omega, by omega, by omega, by omega⟩
        case measure => simp [intOf]
    · have h1 := h1 (by omega)
      clear h2 h3 h4 h5
      by_cases hx : x ≤ 32
      · obtain ⟨e1, e2⟩ := cof_yes (by omega) (by omega) (clsOf_32 h1 hx)
        have E1 := Lib.hid e1; have E2 := Lib.hid e2; clear e1 e2; go_wp2; go_ret2; exact ⟨by rw [E1.out, E2.out] <;> rfl, rfl⟩
      · go_wp2
        go_round
        case rel => exact ⟨2, by omega, rfl, by omega, by omega, by omega, by omega, by omega⟩
        case measure => simp [intOf]
    · have h1 := h2 (by omega)
      clear h2 h3 h4 h5
      by_cases hx : x ≤ 64
      · obtain ⟨e1, e2⟩ := cof_yes (by omega) (by omega) (clsOf_64 h1 hx)
        have E1 := Lib.hid e1; have E2 := Lib.hid e2; clear e1 e2; go_wp2; go_ret2; exact ⟨by rw [E1.out, E2.out] <;> rfl, rfl⟩
      · go_wp2
        go_round
        case rel => exact ⟨3, by omega, rfl, by omega, by omega, by omega, by omega, by omega⟩
        case measure => simp [intOf]
    · have h1 := h3 (by omega)
      clear h2 h3 h4 h5
      by_cases hx : x ≤ 128
      · obtain ⟨e1, e2⟩ := cof_yes (by omega) (by omega) (clsOf_128 h1 hx)
        have E1 := Lib.hid e1; have E2 := Lib.hid e2; clear e1 e2; go_wp2; go_ret2; exact ⟨by rw [E1.out, E2.out] <;> rfl, rfl⟩
      · go_wp2
        go_round
        case rel => exact ⟨4, by omega, rfl, by omega, by omega, by omega, by omega, by omega⟩
        case measure => simp [intOf]
    · have h1 := h4 (by omega)
      clear h2 h3 h4 h5
      by_cases hx : x ≤ 256
      · obtain ⟨e1, e2⟩ := cof_yes (by omega) (by omega) (clsOf_256 h1)
        have E1 := Lib.hid e1; have E2 := Lib.hid e2; clear e1 e2; go_wp2; go_ret2; exact ⟨by rw [E1.out, E2.out] <;> rfl, rfl⟩
      · go_wp2
        go_round
        case rel => exact ⟨5, by omega, rfl, by omega, by omega, by omega, by omega, by omega⟩
        case measure => simp [intOf]
    · have h1 := h5 (by omega)
      clear h2 h3 h4 h5
      obtain ⟨e1, e2⟩ := cof_no (.inr h1)
      have E1 := Lib.hid e1
      have E2 := Lib.hid e2
      clear e1 e2
      go_wp2
      go_ret2
      exact ⟨by rw [E1.out, E2.out] <;> rfl, rfl⟩

theorem all_nil :
    Calls Tryd.prog 39 #[.pointer none] w fun e w' => e = .returned (.slice none 0 0) ∧ w = w' := by
  go_enter Tryd.func39, Tryd.ntmps39
  go_wp2
  go_ret
  exact ⟨rfl, rfl⟩
theorem arena_nil :
    Calls Tryd.prog 11 #[.pointer none] w fun e w' => e = .returned (.pointer none) ∧ w = w' := by
  go_enter Tryd.func11, Tryd.ntmps11
  go_wp2
  go_ret
  exact ⟨rfl, rfl⟩
variable {L : Pt} {n : Nat} {q : Rp} {f : Nat → Int} {t : Nat → Bool}
theorem all_at (h : Rw w L n q f t) :
    Calls Tryd.prog 39 #[.pointer (some ⟨L.p, 0, none⟩)] w fun e w' => e = .returned (.slice (some ⟨L.gp, 0, none⟩) n n) ∧ w = w' := by
  have h2 := h.h2
  clear h
  go_enter Tryd.func39, Tryd.ntmps39
  go_wp2
  go_ret
  exact ⟨rfl, rfl⟩
theorem arena_at (h : Rw w L n q f t) :
    Calls Tryd.prog 11 #[.pointer (some ⟨L.p, 0, none⟩)] w fun e w' => e = .returned (.pointer (some ⟨L.pa, 0, none⟩)) ∧ w = w' := by
  have h0 := h.h0
  clear h
  go_enter Tryd.func11, Tryd.ntmps11
  go_wp2
  go_ret
  exact ⟨rfl, rfl⟩

/-- A block's bit. -/
def bt (j : Nat) : Nat := 2 ^ j
theorem bit_any (b o a c : Nat) (hc : w.cell? ⟨b, o, none⟩ = some (.int .i64 c)) (hC : IsC c) (ha : a ≤ 65536) :
    Calls Tryd.prog 36 #[.pointer (some ⟨b, o, none⟩), .int .i64 a] w fun e w' => e = .returned (.int .u32 (bt (a % 512 / c) : Nat)) ∧ w = w' := by
  have hb := hC.bd
  have h1 : (a : Int).tmod 512 = ((a % 512 : Nat) : Int) := by rw [Int.tmod_eq_emod_of_nonneg (by omega)]; omega
  have h2 : ((a % 512 : Nat) : Int).tdiv c = ((a % 512 / c : Nat) : Int) := by rw [Int.tdiv_eq_ediv_of_nonneg (by omega)]; omega
  have h3 : a % 512 / c < 32 := by
    have := hC.many
    rcases hC with rfl | rfl | rfl | rfl | rfl <;> omega
  generalize hj : a % 512 / c = j at *
  generalize hm : a % 512 = m at *
  have e : IntKind.u32.wrap (2 ^ j) = ((bt j : Nat) : Int) := by
    have h4 : bt j < 4294967296 := Nat.pow_lt_pow_right (a := 2) (by decide) h3
    have h5 : IntKind.u32.wrap ((bt j : Nat) : Int) = bt j := by rw [IntKind.wrap_u32]; omega
    simpa [bt] using h5
  have H := Lib.hid e
  clear e
  go_enter Tryd.func36, Tryd.ntmps36
  go_wp2
  go_ret
  exact ⟨by rw [← H.out]; rfl, rfl⟩
end
end Go.Proofs.YthblpnnbkjhmhaaDoor
