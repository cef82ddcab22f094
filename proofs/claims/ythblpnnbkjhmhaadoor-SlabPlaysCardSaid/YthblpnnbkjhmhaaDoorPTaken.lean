/- The contracts of the pool's has, Taken, Free, New. Condition: the pool's block is known. -/
import Derived.Test.YthblpnnbkjhmhaaDoorPSmall
namespace Go.Proofs.YthblpnnbkjhmhaaDoor.Pool
open Go.RowKit

/-- Is it one of so many pages? -/
def inB (n : Nat) (page : Int) : Bool := decide (0 ≤ page) && decide (page < n)
theorem inB_yes {n k : Nat} (h : k < n) : inB n (k : Int) = true := by simp [inB, h]
theorem inB_no {n : Nat} {page : Int} (h : page < 0 ∨ (n : Int) ≤ page) : inB n page = false := by simp [inB]; omega
/-- Is it taken? -/
def tkB (t : Nat → Bool) (page : Int) : Bool := decide (0 ≤ page) && t page.toNat

section
variable {w : World}
theorem has_any (a : Option Addr) (n : Nat) (t : Nat → Bool) (page : Int) (h : Po w a n t) :
    Calls Tryd.prog 45 #[.pointer a, .int .i64 page] w fun e w' => e = .returned (.bool (inB n page)) ∧ w = w' := by
  have H := Lib.hid h
  clear h
  by_cases h0 : 0 ≤ page
  · by_cases h1 : page < n
    · have e : inB n page = true := by simp [inB, h0, h1]
      rw [e]
      clear e
      go_enter Tryd.func45, Tryd.ntmps45
      go_wp2_with (go_at_call 52; refine (len_any _ _ _ H.out).mono ?_; rintro e w' ⟨rfl, rfl⟩)
      go_ret
      exact ⟨rfl, rfl⟩
    · have e : inB n page = false := by simp [inB, h1]
      rw [e]
      clear e
      have hd : decide (page < n) = false := by simpa using h1
      go_enter Tryd.func45, Tryd.ntmps45
      go_wp2_with (go_at_call 52; refine (len_any _ _ _ H.out).mono ?_; rintro e w' ⟨rfl, rfl⟩)
      go_ret
      exact ⟨rfl, rfl⟩
  · have e : inB n page = false := by simp [inB, h0]
    rw [e]
    clear e
    go_enter Tryd.func45, Tryd.ntmps45
    go_wp2
    go_ret
    exact ⟨rfl, rfl⟩
theorem has_yes (a : Option Addr) (n : Nat) (t : Nat → Bool) (k : Nat) (h : Po w a n t) (hk : k < n) :
    Calls Tryd.prog 45 #[.pointer a, .int .i64 k] w fun e w' => e = .returned (.bool true) ∧ w = w' := by
  have := has_any a n t k h
  rwa [inB_yes hk] at this
theorem has_no (a : Option Addr) (n : Nat) (t : Nat → Bool) (page : Int) (h : Po w a n t) (hk : page < 0 ∨ (n : Int) ≤ page) :
    Calls Tryd.prog 45 #[.pointer a, .int .i64 page] w fun e w' => e = .returned (.bool false) ∧ w = w' := by
  have := has_any a n t page h
  rwa [inB_no hk] at this

theorem taken_no (a : Option Addr) (n : Nat) (t : Nat → Bool) (page : Int) (h : Po w a n t) (hk : page < 0 ∨ (n : Int) ≤ page) :
    Calls Tryd.prog 46 #[.pointer a, .int .i64 page] w fun e w' => e = .returned (.bool false) ∧ ∃ m, w' = w.drewN m := by
  have H := Lib.hid h
  have HK := Lib.hid hk
  clear h hk
  go_enter Tryd.func46, Tryd.ntmps46
  go_wp2_with fail
  go_quiet ((go_at_call 45; exact quiet_same (has_no _ _ _ _ (H.out.drew _) HK.out)))
  go_wp2
  go_ret
  exact ⟨rfl, _, rfl⟩

theorem taken_yes (p n : Nat) (t : Nat → Bool) (k : Nat) (h : Pl w p n t) (hk : k < n) :
    Calls Tryd.prog 46 #[.pointer (some ⟨p, 0, none⟩), .int .i64 k] w fun e w' => e = .returned (.bool (t k)) ∧ ∃ m, w' = w.drewN m := by
  have hs := h.small
  have h1 := h.c1
  have h2 := h.c2
  have H := Lib.hid h
  clear h
  by_cases h64 : k < 64
  · have hq : (k : Int).tdiv 64 = 0 := by rw [Int.tdiv_eq_ediv_of_nonneg (by omega)]; omega
    have hb := m_and t k
    rw [show k % 64 = k by omega] at hb
    go_enter Tryd.func46, Tryd.ntmps46
    go_wp2_with fail
    go_quiet ((first | (go_at_call 45; exact quiet_same (has_yes _ _ _ _ (H.out.po.drew _) hk)) | (go_at_call 47; exact quiet_same (mask_any k (by omega)))))
    go_wp2
    go_ret
    exact ⟨rfl, _, rfl⟩
  · have hq : (k : Int).tdiv 64 = 1 := by rw [Int.tdiv_eq_ediv_of_nonneg (by omega)]; omega
    have hb := m_and (sh t 64) k
    rw [show sh t 64 (k % 64) = t k by unfold sh; congr 1; omega] at hb
    go_enter Tryd.func46, Tryd.ntmps46
    go_wp2_with fail
    go_quiet ((first | (go_at_call 45; exact quiet_same (has_yes _ _ _ _ (H.out.po.drew _) hk)) | (go_at_call 47; exact quiet_same (mask_any k (by omega)))))
    go_wp2
    go_ret
    exact ⟨rfl, _, rfl⟩

/-- Whatever the page. -/
theorem taken_any (a : Option Addr) (n : Nat) (t : Nat → Bool) (page : Int) (h : Po w a n t) :
    Calls Tryd.prog 46 #[.pointer a, .int .i64 page] w fun e w' => e = .returned (.bool (tkB t page)) ∧ ∃ m, w' = w.drewN m := by
  by_cases hk : page < 0 ∨ (n : Int) ≤ page
  · have e : tkB t page = false := by
      unfold tkB
      by_cases h0 : 0 ≤ page
      · rw [h.off page.toNat (by omega)]; simp
      · simp [h0]
    rw [e]
    exact taken_no a n t page h hk
  · obtain ⟨k, rfl⟩ := Int.eq_ofNat_of_zero_le (show 0 ≤ page by omega)
    have e : tkB t (k : Int) = t k := by simp [tkB]
    rw [e]
    rcases h with ⟨rfl, rfl, _⟩ | ⟨p, rfl, h⟩
    · omega
    · exact taken_yes p n t k h (by omega)

/-- How many are free. -/
def free (n : Nat) (t : Nat → Bool) : Nat := n - cnt t n
theorem cnt_off {t : Nat → Bool} {n : Nat} (h : ∀ i, n ≤ i → t i = false) : ∀ k, cnt t (n + k) = cnt t n
  | 0 => rfl
  | k + 1 => by
    show cnt t (n + k) + (if t (n + k) then 1 else 0) = _
    rw [cnt_off h k, h (n + k) (by omega)]
    rfl
theorem cnt_split {t : Nat → Bool} {n : Nat} (hn : n ≤ 128) (h : ∀ i, n ≤ i → t i = false) : cnt t 64 + cnt (sh t 64) 64 = cnt t n := by
  rw [← cnt_add t 64 64, ← cnt_off h (128 - n)]
  congr 1
  omega
theorem run_arr (x y : Value) (w : World) : (Instr.index 85 (.agg #[x, y]) (.int .i64 0)).run Tryd.prog w = .ok x w ∧ (Instr.index 85 (.agg #[x, y]) (.int .i64 1)).run Tryd.prog w = .ok y w := ⟨by kernel_rfl, by kernel_rfl⟩

theorem new_bad (n : Int) (hn : n < 0 ∨ 128 < n) :
    Calls Tryd.prog 28 #[.int .i64 n] w fun e w' => e = .returned (.tuple #[.pointer none, .int .i64 1]) ∧ w = w' := by
  rcases hn with hn | hn
  · go_enter Tryd.func28, Tryd.ntmps28
    go_wp2
    go_ret2
    exact ⟨rfl, rfl⟩
  · have h0 : ¬ n < 0 := by omega
    go_enter Tryd.func28, Tryd.ntmps28
    go_wp2
    go_ret2
    exact ⟨rfl, rfl⟩
theorem num_none : ∀ n, num (fun _ => false) n = 0
  | 0 => rfl
  | n + 1 => by unfold num; rw [num_none n]; rfl
theorem words_none (n : Nat) : words n (fun _ => false) = #[.int .i64 n, .int .u64 0, .int .u64 0] := by
  have h1 : num (fun _ => false) 64 = 0 := num_none 64
  have h2 : num (sh (fun _ => false) 64) 64 = 0 := num_none 64
  unfold words
  rw [h1, h2]
  rfl
theorem new_ok (n : Nat) (hn : n ≤ 128) :
    Calls Tryd.prog 28 #[.int .i64 n] w fun e w' => e = .returned (.tuple #[.pointer (some ⟨w.heap.size, 0, none⟩), .int .i64 0]) ∧ Pl w' w.heap.size n (fun _ => false) ∧ w'.heap.size = w.heap.size + 1 ∧ Below w.heap.size w w' := by
  have hB := Blk.new w 87 (words n fun _ => false)
  rw [words_none] at hB
  have HB := Lib.hid hB
  clear hB
  go_enter Tryd.func28, Tryd.ntmps28
  go_wp2
  go_ret2
  exact ⟨rfl, ⟨by rw [words_none]; exact HB.out, hn, fun _ _ => rfl⟩, by simp, (Below.refl _ _).alloc (Nat.le_refl _) _⟩
end
end Go.Proofs.YthblpnnbkjhmhaaDoor.Pool
