/- The contract of firstWord. Conditions: the tables lie in their blocks; the operation is one of the table's, and C of its row. -/
import Derived.Test.YtcedjjolikmbbaaDoorISmall
namespace Go.Proofs.YtcedjjolikmbbaaDoor
open Go.RowKit
set_option maxRecDepth 100000

theorem getD_len (T : List (List UInt8)) (h : ∀ l ∈ T, l.length ≤ 20) (c : Nat) : (T.getD c []).length ≤ 20 := by
  rw [List.getD_eq_getElem?_getD]
  rcases e : T[c]? with _ | l
  · simp
  · exact h l (List.mem_of_getElem? e)
theorem alu_len (c : Nat) : (aluT.getD c []).length ≤ 20 := getD_len aluT (by decide) c
theorem cond_len (c : Nat) : (condT.getD c []).length ≤ 20 := getD_len condT (by decide) c
theorem ops_len (c : Nat) : (opsT.getD c []).length ≤ 20 := getD_len opsT (by decide) c
theorem help_len (c : Nat) : (helpT.getD c []).length ≤ 20 := getD_len helpT (by decide) c
section
variable {w : World}
def fwOk (i : In) : Prop := i.op < 16 ∧ ((i.op = 3 ∨ i.op = 4) → i.c < 12) ∧ ((i.op = 6 ∨ i.op = 7) → i.c < 10)
theorem firstWord_any (T : Hid (Tabs w)) (i : In) (hi : fwOk i) : Calls Tryd.prog 22 #[iv i] w fun e w' => e = .returned (sv (fw i)) ∧ Below w.heap.size w w' := by
  obtain ⟨op, a, b, c, im⟩ := i
  obtain ⟨h1, h2, h3⟩ := hi
  simp only at h1 h2 h3
  unfold iv
  have hs := T.out.size
  have b1 : 1 < w.heap.size := by omega
  have b2 : 2 < w.heap.size := by omega
  have b3 : 3 < w.heap.size := by omega
  clear hs
  by_cases e3 : op = 3
  · subst e3
    have hc : (c : Int) < 12 := by omega
    have cc := T.out.alu c (by omega)
    have hl := alu_len c
    obtain ⟨X, hX⟩ : ∃ X, aluT.getD c [] = X := ⟨_, rfl⟩
    rw [hX] at cc hl
    have s1 : ¬ 9223372036854775807 < (st X).size + 1 := by rw [st_size]; omega
    have s2 : ¬ 9223372036854775807 < 1 + (st X).size := by rw [st_size]; omega
    have s3 : ¬ 9223372036854775807 < 1 + (st X).size + 1 := by rw [st_size]; omega
    replace hX := Lib.hid hX
    clear hl
    have HL := Lib.hid (show fw ⟨3, a, b, c, im⟩ = X from hX.out)
    unfold sv at cc ⊢
    go_enter Tryd.func22, Tryd.ntmps22
    go_wp2_with fail
    go_ret
    rw [HL.out]
    exact ⟨rfl, by go_grown⟩
  by_cases e4 : op = 4
  · subst e4
    have hc : (c : Int) < 12 := by omega
    have cc := T.out.alu c (by omega)
    have hl := alu_len c
    obtain ⟨X, hX⟩ : ∃ X, aluT.getD c [] = X := ⟨_, rfl⟩
    rw [hX] at cc hl
    have s1 : ¬ 9223372036854775807 < (st X).size + 1 := by rw [st_size]; omega
    have s2 : ¬ 9223372036854775807 < 1 + (st X).size := by rw [st_size]; omega
    have s3 : ¬ 9223372036854775807 < 1 + (st X).size + 1 := by rw [st_size]; omega
    replace hX := Lib.hid hX
    clear hl
    have HL := Lib.hid (show st (fw ⟨4, a, b, c, im⟩) = st X ++ ⟨#[105]⟩ from by rw [← hX.out]; exact (st_app _ [105]).symm)
    unfold sv at cc ⊢
    go_enter Tryd.func22, Tryd.ntmps22
    go_wp2_with fail
    go_ret
    rw [HL.out]
    exact ⟨rfl, by go_grown⟩
  by_cases e6 : op = 6
  · subst e6
    have hc : (c : Int) < 10 := by omega
    have cc := T.out.cond c (by omega)
    have hl := cond_len c
    obtain ⟨X, hX⟩ : ∃ X, condT.getD c [] = X := ⟨_, rfl⟩
    rw [hX] at cc hl
    have s1 : ¬ 9223372036854775807 < (st X).size + 1 := by rw [st_size]; omega
    have s2 : ¬ 9223372036854775807 < 1 + (st X).size := by rw [st_size]; omega
    have s3 : ¬ 9223372036854775807 < 1 + (st X).size + 1 := by rw [st_size]; omega
    replace hX := Lib.hid hX
    clear hl
    have HL := Lib.hid (show st (fw ⟨6, a, b, c, im⟩) = ⟨#[106]⟩ ++ st X from by rw [← hX.out]; exact (st_app [106] _).symm)
    unfold sv at cc ⊢
    go_enter Tryd.func22, Tryd.ntmps22
    go_wp2_with fail
    go_ret
    rw [HL.out]
    exact ⟨rfl, by go_grown⟩
  by_cases e7 : op = 7
  · subst e7
    have hc : (c : Int) < 10 := by omega
    have cc := T.out.cond c (by omega)
    have hl := cond_len c
    obtain ⟨X, hX⟩ : ∃ X, condT.getD c [] = X := ⟨_, rfl⟩
    rw [hX] at cc hl
    have s1 : ¬ 9223372036854775807 < (st X).size + 1 := by rw [st_size]; omega
    have s2 : ¬ 9223372036854775807 < 1 + (st X).size := by rw [st_size]; omega
    have s3 : ¬ 9223372036854775807 < 1 + (st X).size + 1 := by rw [st_size]; omega
    replace hX := Lib.hid hX
    clear hl
    have HL := Lib.hid (show st (fw ⟨7, a, b, c, im⟩) = ⟨#[106]⟩ ++ st X ++ ⟨#[105]⟩ from by rw [← hX.out, show (⟨#[106]⟩ : ByteArray) = st [106] from rfl, show (⟨#[105]⟩ : ByteArray) = st [105] from rfl, st_app, st_app]; rfl)
    unfold sv at cc ⊢
    go_enter Tryd.func22, Tryd.ntmps22
    go_wp2_with fail
    go_ret
    rw [HL.out]
    exact ⟨rfl, by go_grown⟩
  have n3 : ((op : Int) == 3) = false := by simp; omega
  have n4 : ((op : Int) == 4) = false := by simp; omega
  have n6 : ((op : Int) == 6) = false := by simp; omega
  have n7 : ((op : Int) == 7) = false := by simp; omega
  have hc : (op : Int) < 16 := by omega
  have cc := T.out.ops op h1
  have HL := Lib.hid (show fw ⟨op, a, b, c, im⟩ = opsT.getD op [] by simp [fw, e3, e4, e6, e7])
  unfold sv at cc ⊢
  go_enter Tryd.func22, Tryd.ntmps22
  go_wp2_with fail
  go_ret
  rw [HL.out]
  exact ⟨rfl, by go_grown⟩
end
end Go.Proofs.YtcedjjolikmbbaaDoor
