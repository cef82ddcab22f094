/- The contract of math/bits.OnesCount32. No condition. -/
import Derived.Test.YthblpnnbkjhmhaaDoorSFree
import Derived.Lib.Tables
namespace Go.Proofs.YthblpnnbkjhmhaaDoor
open Go.RowKit
open Pool (num cnt upd Pl low setR num_testBit quiet_same sh popB popB_num cnt_add num_add num_lt cnt_le)

theorem pop8_popB : ∀ b : Fin 256, Lib.pop8 (b.val : Int) = (popB 8 b.val : Nat) := by decide +kernel
theorem pop8_cnt (f : Nat → Bool) : Lib.pop8 ((num f 8 : Nat) : Int) = (cnt f 8 : Nat) := by
  rw [← popB_num 8 f]
  exact pop8_popB ⟨num f 8, num_lt f 8⟩
theorem foldT (a b c d : List UInt8) (h : (⟨((a.append b).append (c.append d)).toArray⟩ : ByteArray) = Lib.pop8tab) : Value.string ⟨((a.append b).append (c.append d)).toArray⟩ = Value.string Lib.pop8tab := by rw [h]
section
variable {w : World}
set_option maxRecDepth 100000 in
theorem ones_any (f : Nat → Bool) :
    Calls Tryd.prog 40 #[.int .u32 (num f 32 : Nat)] w fun e w' => e = .returned (.int .i64 (cnt f 32 : Nat)) ∧ ∃ m, w' = w.drewN m := by
  have hx : num f 32 < 4294967296 := num_lt f 32
  have hsp : num f 32 = num f 8 + 256 * (num (sh f 8) 8 + 256 * (num (sh f 16) 8 + 256 * num (sh f 24) 8)) := by
    have e1 := num_add f 8 24
    have e2 := num_add (sh f 8) 8 16
    have e3 := num_add (sh (sh f 8) 8) 8 8
    have s1 : sh (sh f 8) 8 = sh f 16 := by funext i; unfold sh; congr 1; omega
    have s2 : sh (sh (sh f 8) 8) 8 = sh f 24 := by funext i; unfold sh; congr 1; omega
    rw [s1] at e2
    rw [s2] at e3
    rw [s1] at e3
    simp only [Nat.reduceAdd] at e1 e2 e3
    rw [e1, e2, e3]
  have hcn : cnt f 32 = cnt f 8 + (cnt (sh f 8) 8 + (cnt (sh f 16) 8 + cnt (sh f 24) 8)) := by
    have e1 := cnt_add f 8 24
    have e2 := cnt_add (sh f 8) 8 16
    have e3 := cnt_add (sh (sh f 8) 8) 8 8
    have s1 : sh (sh f 8) 8 = sh f 16 := by funext i; unfold sh; congr 1; omega
    have s2 : sh (sh (sh f 8) 8) 8 = sh f 24 := by funext i; unfold sh; congr 1; omega
    rw [s1] at e2
    rw [s2] at e3
    rw [s1] at e3
    simp only [Nat.reduceAdd] at e1 e2 e3
    rw [e1, e2, e3]
  have l0 := num_lt f 8
  have l1 := num_lt (sh f 8) 8
  have l2 := num_lt (sh f 16) 8
  have l3 := num_lt (sh f 24) 8
  have k0 := cnt_le f 8
  have k1 := cnt_le (sh f 8) 8
  have k2 := cnt_le (sh f 16) 8
  have k3 := cnt_le (sh f 24) 8
  have r : ∀ (g : Nat → Bool) (w : World), (Instr.index 9 (.string Lib.pop8tab) (.int .u32 ((num g 8 : Nat) : Int))).run Tryd.prog w = .ok (.int .u8 ((cnt g 8 : Nat) : Int)) w := fun g w => by
    rw [← pop8_cnt g]
    have := num_lt g 8
    exact Lib.run_index_pop8tab w 9 .u32 _ Tryd.underlying9 (by omega) (by omega)
  have r0 := r f
  have r1 := r (sh f 8)
  have r2 := r (sh f 16)
  have r3 := r (sh f 24)
  have and255 : ∀ y : Nat, y < 4294967296 → bits .and .u32 (y : Int) 255 = ((y % 256 : Nat) : Int) := fun y hy => by
    have := u32_and_nat y 255 hy (by decide)
    rw [Nat.and_two_pow_sub_one_eq_mod y 8] at this
    exact this
  rw [hcn]
  generalize cnt f 8 = c0 at *
  generalize cnt (sh f 8) 8 = c1 at *
  generalize cnt (sh f 16) 8 = c2 at *
  generalize cnt (sh f 24) 8 = c3 at *
  generalize num f 8 = b0 at *
  generalize num (sh f 8) 8 = b1 at *
  generalize num (sh f 16) 8 = b2 at *
  generalize num (sh f 24) 8 = b3 at *
  generalize num f 32 = x at *
  have d3 : (x : Int) / 16777216 = (b3 : Nat) := by omega
  have d2 : (x : Int) / 65536 = ((x / 65536 : Nat) : Int) := by omega
  have d1 : (x : Int) / 256 = ((x / 256 : Nat) : Int) := by omega
  have a2 : bits .and .u32 ((x / 65536 : Nat) : Int) 255 = (b2 : Nat) := by rw [and255 _ (by omega)]; omega
  have a1 : bits .and .u32 ((x / 256 : Nat) : Int) 255 = (b1 : Nat) := by rw [and255 _ (by omega)]; omega
  have a0 : bits .and .u32 (x : Int) 255 = (b0 : Nat) := by rw [and255 _ (by omega)]; omega
  generalize x / 65536 = x2 at *
  generalize x / 256 = x1 at *
  clear and255 r hsp hcn
  have w1 : IntKind.u8.wrap ((c3 : Int) + c2) = c3 + c2 := by rw [IntKind.wrap_u8]; omega
  have w2 : IntKind.u8.wrap ((c3 : Int) + c2 + c1) = c3 + c2 + c1 := by rw [IntKind.wrap_u8]; omega
  have w3 : IntKind.u8.wrap ((c3 : Int) + c2 + c1 + c0) = c3 + c2 + c1 + c0 := by rw [IntKind.wrap_u8]; omega
  have w4 : IntKind.i64.wrap ((c3 : Int) + c2 + c1 + c0) = c3 + c2 + c1 + c0 := IntWalk.i64_in _ (by omega)
  go_enter Tryd.func40, Tryd.ntmps40
  go_wp2_with fail
  rw [foldT]
  rotate_left
  · kernel_rfl
  go_quiet (fail)
  go_wp2
  go_ret
  refine ⟨?_, _, rfl⟩
  have e : ((c0 + (c1 + (c2 + c3)) : Nat) : Int) = c3 + c2 + c1 + c0 := by omega
  rw [e]
  rfl
end
end Go.Proofs.YthblpnnbkjhmhaaDoor
