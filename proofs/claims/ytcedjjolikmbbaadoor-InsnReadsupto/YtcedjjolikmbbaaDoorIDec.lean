/- The contracts of strconv.FormatUint at base 10, decimal, word. Condition: the tables lie in their blocks. -/
import Derived.Test.YtcedjjolikmbbaaDoorISmall
import Derived.Test.YtcedjjolikmbbaaDoorIFirst
import Derived.Test.YtcedjjolikmbbaaDoorShelf
import Derived.Lib.ItoaMem
namespace Go.Proofs.YtcedjjolikmbbaaDoor
open Go.RowKit Go.Sort
set_option maxRecDepth 100000
set_option maxHeartbeats 4000000

theorem holds24 (w : World) (T : TypeId) (nd : Nat) (hs : nd ≤ 24) : Holds (fun (b : UInt8) => Value.int .u8 (b.toNat : Int)) (w.alloc (.cells Lib.zeros24 T)) w.heap.size 0 (Array.replicate nd (0 : UInt8)) := fun j hj => by
  have hj' : j < nd := by simpa using hj
  refine ⟨?_, World.frozen?_alloc_new _ _ _ _⟩
  rw [World.cell?_alloc_new, Lib.zeros24_at _ (by omega), getElem!_pos _ j hj]
  simp
theorem below_grow {B : Nat} {w : World} (h : B ≤ w.heap.size) (k : Nat) (os : Array Obj) : Below B w (grow (w.drewN k) os) :=
  ⟨rfl, rfl, rfl, by simp [grow], fun i hi => by
    simp only [grow]
    exact Array.getElem?_append_left (by show i < (w.drewN k).heap.size; exact Nat.lt_of_lt_of_le hi h)⟩
theorem dec_len10 (v : Nat) (h : v < 4294967296) : (Lib.decDigits v).length ≤ 10 := by
  rw [Lib.decDigits_length]
  by_cases h0 : v = 0
  · subst h0; rw [Lib.nDigits_small (by omega)]; omega
  · have e1 := Lib.numDigits_eq v (by omega) (by omega)
    rcases Nat.lt_or_ge 10 (Lib.nDigits v) with hl | hl
    · exfalso
      have hp : ∀ n u, n < Lib.nDigits u → 10 ^ n ≤ u ∨ n = 0 := by
        intro n
        induction n with
        | zero => intro u _; exact Or.inr rfl
        | succ n ih =>
          intro u hu
          left
          by_cases h10 : u < 10
          · rw [Lib.nDigits_small h10] at hu; omega
          · rw [Lib.nDigits_big h10] at hu
            rcases ih (u / 10) (by omega) with h | h
            · rw [Nat.pow_succ]; omega
            · subst h; simp; omega
      rcases hp 10 v hl with h5 | h5
      · simp at h5; omega
      · cases h5
    · exact hl
section
variable {w : World}
theorem format_any (T : Hid (Tabs w)) (u : Nat) (hu : u < 4294967296) : Calls Tryd.prog 53 #[.int .u64 (u : Int), .int .i64 10] w fun e w' => e = .returned (sv (Lib.decDigits u)) ∧ Below w.heap.size w w' := by
  unfold sv st
  by_cases hs : u < 100
  · have wu := w64 u (by omega)
    have hs' : (u : Int) < 100 := by omega
    go_enter Tryd.func53, Tryd.ntmps53
    go_wp2_with (go_at_call 61; refine (Tryd.internal_strconv_small u hs _).mono ?_; rintro e w' ⟨rfl, rfl⟩)
    go_ret
    exact ⟨rfl, Below.refl _ _⟩
  · have hu1 : 1 ≤ u := by omega
    have hs' : ¬ (u : Int) < 100 := by omega
    have hu64 : u < 18446744073709551616 := by omega
    have hnd : Lib.nDigits u ≤ 10 := by rw [← Lib.decDigits_length]; exact dec_len10 u hu
    have hal : Tryd.prog.arrayLen 101 = 24 := by simp [Program.arrayLen, Tryd.underlying101]
    have hsl : ∀ W, (Instr.sliceAt 101 (.pointer (some ⟨w.heap.size, 0, none⟩)) none (some (.int .i64 ((Lib.nDigits u : Nat) : Int))) none).run Tryd.prog W = .ok (.slice (some ⟨w.heap.size, 0, none⟩) (Lib.nDigits u) 24) W := fun W => by
      rw [run_sliceAt_array_h W 101 ⟨w.heap.size, 0, none⟩ (by simp [Program.arrayLen, Program.elem, Tryd.underlying101]) .i64 ((Lib.nDigits u : Nat) : Int) (by omega) (by rw [hal]; omega)]
      go_simp
    have hH0 := holds24 w 101 (Lib.nDigits u) (by omega)
    have hfmt := Tryd.internal_strconv_formatBase10 w.heap.size 0 24 u (Array.replicate (Lib.nDigits u) 0) (w.alloc (.cells Lib.zeros24 101)) hH0 (by rw [Array.size_replicate]; exact Lib.lt_pow_nDigits u) hu64 (by rw [Array.size_replicate]; omega)
    rw [Array.size_replicate] at hfmt
    have HH0 := Lib.hid hH0
    clear hH0 hal
    go_enter Tryd.func53, Tryd.ntmps53
    go_wp2_with (go_at_call 62; refine (Tryd.internal_strconv_numDigits u hu1 hu64 _ (Lib.tabIs_alloc T.out.pow _)).mono ?_; rintro e w' ⟨rfl, rfl⟩)
    go_at_call 63
    refine hfmt.mono ?_
    rintro e w' ⟨rfl, k, v', dk, rfl, hF⟩
    have hcv : (convert 40 9 (.slice (some ⟨w.heap.size, 0, none⟩) (Lib.nDigits u) 24)).run Tryd.prog ((putRow (fun (b : UInt8) => Value.int .u8 (b.toNat : Int)) (w.alloc (.cells Lib.zeros24 101)) w.heap.size 0 dk).drewN k) = .ok (.string ⟨(Lib.decDigits u).toArray⟩) ((putRow (fun (b : UInt8) => Value.int .u8 (b.toNat : Int)) (w.alloc (.cells Lib.zeros24 101)) w.heap.size 0 dk).drewN k) := by
      have h := run_convert_bytes_back (P := Tryd.prog) ((putRow (fun (b : UInt8) => Value.int .u8 (b.toNat : Int)) (w.alloc (.cells Lib.zeros24 101)) w.heap.size 0 dk).drewN k) 40 9 5 ⟨w.heap.size, 0, none⟩ 24 (Lib.decDigits u) Tryd.underlying40 Tryd.underlying5 Tryd.underlying9 (fun j hj => by
        rw [Lib.row_is_numeral hF j hj, Lib.add_plain, World.cell?_drewN]
        exact cell?_putRow (fun (b : UInt8) => Value.int .u8 (b.toNat : Int)) _ w.heap.size 0 _ dk HH0.out (by rw [hF.size, Array.size_replicate]) j (by rw [hF.size]; rw [Lib.decDigits_length] at hj; exact hj))
      rw [Lib.decDigits_length] at h
      exact h
    go_wp2
    go_ret
    refine ⟨rfl, ?_⟩
    rw [alloc_eq_grow]
    obtain ⟨os', _, e⟩ := putRow_grow_new (fun (b : UInt8) => Value.int .u8 (b.toNat : Int)) w #[.cells Lib.zeros24 101] w.heap.size 0 dk (Nat.le_refl _)
    rw [e]
    exact below_grow (Nat.le_refl _) k os'
theorem decimal_any (T : Hid (Tabs w)) (u : Nat) (hu : u < 4294967296) : Calls Tryd.prog 41 #[.int .u32 (u : Int)] w fun e w' => e = .returned (sv (Lib.decDigits u)) ∧ Below w.heap.size w w' := by
  have wu := w64u u (by omega)
  have hf : Calls Tryd.prog 47 #[.int .u64 (u : Int), .int .i64 10] w fun e w' => e = .returned (sv (Lib.decDigits u)) ∧ Below w.heap.size w w' := by
    go_enter Tryd.func47, Tryd.ntmps47
    go_wp2_with (go_at_call 53; refine (format_any T u hu).mono ?_; rintro e w' ⟨rfl, hb⟩)
    go_ret
    exact ⟨rfl, hb⟩
  have HF := Lib.hid hf
  clear hf
  go_enter Tryd.func41, Tryd.ntmps41
  go_wp2_with (go_at_call 47; refine HF.out.mono ?_; rintro e w' ⟨rfl, hb⟩)
  go_ret
  exact ⟨rfl, hb⟩
end
end Go.Proofs.YtcedjjolikmbbaaDoor
