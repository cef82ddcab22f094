/- The contracts of the document's Parts, Words, value, fits. No condition. -/
import Derived.Test.YtcedjjolikmbbaaDoorISmall
import Derived.Test.YtcedjjolikmbbaaDoorJMath
namespace Go.Proofs.YtcedjjolikmbbaaDoor
open Go.RowKit
set_option maxRecDepth 100000
set_option maxHeartbeats 1000000

theorem run_ixs {l : List UInt8} {k : Nat} {c : UInt8} (h : l[k]? = some c) (w : World) : (Instr.index 9 (.string (st l)) (.int .i64 (k : Int))).run Tryd.prog w = .ok (.int .u8 (c.toNat : Int)) w := by
  have hl : k < l.length := (List.getElem?_eq_some_iff.1 h).1
  have he : l[k] = c := (List.getElem?_eq_some_iff.1 h).2
  have hs : (st l).size = l.length := st_size l
  rw [run_index_string _ _ _ _ _ (by kernel_rfl), dif_pos (by rw [hs]; omega)]
  congr 3
  have : (st l)[((k : Int)).toNat]'(by rw [hs]; omega) = l[k] := by
    simp [st, ByteArray.getElem_eq_getElem_data]
  rw [this, he]
section
variable {w : World}
theorem rparts_any (op : Nat) (h1 : 1 ≤ op) (h2 : op ≤ 15) : Calls Tryd.prog 26 #[.int .i64 (op : Int)] w fun e w' => e = .returned (.tuple #[sv (fiN op), sv (fl (paN op))]) ∧ w' = w := by
  rcases fifteen h1 h2 with rfl | rfl | rfl | rfl | rfl | rfl | rfl | rfl | rfl | rfl | rfl | rfl | rfl | rfl | rfl
  all_goals
    go_enter Tryd.func26, Tryd.ntmps26
    go_wp2_with fail
    go_returns
    exact ⟨rfl, rfl⟩
theorem rwords_any (op : Nat) (h1 : 1 ≤ op) (h2 : op ≤ 15) : Calls Tryd.prog 27 #[.int .i64 (op : Int)] w fun e w' => ∃ A n, e = .returned (.slice A n n) ∧ n = (woN op).length ∧ (0 < n → A = some ⟨w.heap.size, 0, none⟩ ∧ Blk w' w.heap.size 9 ((woN op).map sv).toArray) ∧ Below w.heap.size w w' := by
  rcases fifteen h1 h2 with rfl | rfl | rfl | rfl | rfl | rfl | rfl | rfl | rfl | rfl | rfl | rfl | rfl | rfl | rfl
  all_goals
    go_enter Tryd.func27, Tryd.ntmps27
    go_wp2_with fail
    go_returns
    first
    | exact ⟨none, 0, rfl, rfl, fun h => absurd h (by decide), Below.refl _ _⟩
    | exact ⟨_, _, rfl, rfl, fun _ => ⟨rfl, Blk.new _ _ _⟩, by go_grown⟩
theorem rvalue_any (i : In) (hi : i.ok) (c : UInt8) : Calls Tryd.prog 28 #[iv i, .int .u8 (c.toNat : Int)] w fun e w' => e = .returned (.int .u32 (rvl i c : Int)) ∧ Below w.heap.size w w' := by
  obtain ⟨op, a, b, c', im⟩ := i
  obtain ⟨_, ha, hb, hc, _⟩ := hi
  simp only at ha hb hc
  unfold iv
  have wa := w32 a (by omega)
  have wb := w32 b (by omega)
  have wc := w32 c' (by omega)
  by_cases ea : c = 65
  · subst ea
    have HL := Lib.hid (show rvl ⟨op, a, b, c', im⟩ 65 = a from rfl)
    go_enter Tryd.func28, Tryd.ntmps28
    go_wp2_with fail
    go_ret
    rw [HL.out]
    refine ⟨rfl, ?_⟩
    go_grown
  by_cases eb : c = 66
  · subst eb
    have HL := Lib.hid (show rvl ⟨op, a, b, c', im⟩ 66 = b from rfl)
    go_enter Tryd.func28, Tryd.ntmps28
    go_wp2_with fail
    go_ret
    rw [HL.out]
    refine ⟨rfl, ?_⟩
    go_grown
  by_cases ec : c = 67
  · subst ec
    have HL := Lib.hid (show rvl ⟨op, a, b, c', im⟩ 67 = c' from rfl)
    go_enter Tryd.func28, Tryd.ntmps28
    go_wp2_with fail
    go_ret
    rw [HL.out]
    refine ⟨rfl, ?_⟩
    go_grown
  have ne : ∀ d : UInt8, c ≠ d → ((c.toNat : Int) == (d.toNat : Int)) = false := fun d hd => by
    simp only [beq_eq_false_iff_ne, ne_eq]
    exact fun e => hd (UInt8.toNat_inj.1 (by omega))
  have n1 : ((c.toNat : Int) == 65) = false := ne 65 ea
  have n2 : ((c.toNat : Int) == 66) = false := ne 66 eb
  have n3 : ((c.toNat : Int) == 67) = false := ne 67 ec
  have HL := Lib.hid (show rvl ⟨op, a, b, c', im⟩ c = im by simp [rvl, ea, eb, ec])
  clear ea eb ec ne
  go_enter Tryd.func28, Tryd.ntmps28
  go_wp2_with fail
  go_ret
  rw [HL.out]
  refine ⟨rfl, ?_⟩
  go_grown
theorem rfits_any (v : Nat) (hv : v < 4294967296) (h : UInt8) (m : Nat) : Calls Tryd.prog 32 #[.int .u32 (v : Int), .int .u8 (h.toNat : Int), .int .i64 (m : Int)] w fun e w' => e = .returned (.bool (rfit v h m)) ∧ w' = w := by
  have ne : ∀ d : UInt8, h ≠ d → ((h.toNat : Int) == (d.toNat : Int)) = false := fun d hd => by
    simp only [beq_eq_false_iff_ne, ne_eq]
    exact fun e => hd (UInt8.toNat_inj.1 (by omega))
  have d9 : decide ((v : Int) ≤ 9) = decide (v ≤ 9) := by simp; omega
  have d7 : decide ((v : Int) ≤ 7) = decide (v ≤ 7) := by simp; omega
  have d11 : decide ((v : Int) ≤ 11) = decide (v ≤ 11) := by simp; omega
  by_cases e1 : h = 114
  · subst e1
    have HL := Lib.hid (show rfit v 114 m = decide ((v : Int) ≤ 9) by rw [d9]; rfl)
    clear d9 d7 d11 ne
    go_enter Tryd.func32, Tryd.ntmps32
    go_wp2_with fail
    go_ret
    rw [HL.out]
    exact ⟨rfl, rfl⟩
  by_cases e2 : h = 120
  · subst e2
    have HL := Lib.hid (show rfit v 120 m = decide ((v : Int) ≤ 9) by rw [d9]; rfl)
    clear d9 d7 d11 ne
    go_enter Tryd.func32, Tryd.ntmps32
    go_wp2_with fail
    go_ret
    rw [HL.out]
    exact ⟨rfl, rfl⟩
  by_cases e3 : h = 115
  · subst e3
    have HL := Lib.hid (show rfit v 115 m = decide ((v : Int) ≤ 7) by rw [d7]; rfl)
    clear d9 d7 d11 ne
    go_enter Tryd.func32, Tryd.ntmps32
    go_wp2_with fail
    go_ret
    rw [HL.out]
    exact ⟨rfl, rfl⟩
  by_cases e4 : h = 102
  · subst e4
    have HL := Lib.hid (show rfit v 102 m = decide ((v : Int) ≤ 11) by rw [d11]; rfl)
    clear d9 d7 d11 ne
    go_enter Tryd.func32, Tryd.ntmps32
    go_wp2_with fail
    go_ret
    rw [HL.out]
    exact ⟨rfl, rfl⟩
  by_cases e5 : h = 43
  · subst e5
    clear d9 d7 d11 ne
    by_cases h1 : 1 ≤ v
    · have g1 : decide ((1 : Int) ≤ v) = true := by simp; omega
      have HL := Lib.hid (show rfit v 43 m = decide ((v : Int) ≤ 127) by simp [rfit, h1]; omega)
      clear h1
      go_enter Tryd.func32, Tryd.ntmps32
      go_wp2_with fail
      go_ret
      rw [HL.out]
      exact ⟨rfl, rfl⟩
    · have g1 : decide ((1 : Int) ≤ v) = false := by simp; omega
      have HL := Lib.hid (show rfit v 43 m = false by simp [rfit, h1])
      clear h1
      go_enter Tryd.func32, Tryd.ntmps32
      go_wp2_with fail
      go_ret
      rw [HL.out]
      exact ⟨rfl, rfl⟩
  have n1 : ((h.toNat : Int) == 114) = false := ne 114 e1
  have n2 : ((h.toNat : Int) == 120) = false := ne 120 e2
  have n3 : ((h.toNat : Int) == 115) = false := ne 115 e3
  have n4 : ((h.toNat : Int) == 102) = false := ne 102 e4
  have n5 : ((h.toNat : Int) == 43) = false := ne 43 e5
  by_cases e6 : h = 119
  · subst e6
    clear d9 d7 d11 ne n1 n2 n3 n4 n5
    have wv := w64 v (by omega)
    by_cases h1 : 1 ≤ v
    · have g1 : decide ((1 : Int) ≤ v) = true := by simp; omega
      have HL := Lib.hid (show rfit v 119 m = decide (v ≤ m) by simp [rfit, h1])
      clear h1
      go_enter Tryd.func32, Tryd.ntmps32
      go_wp2_with fail
      go_ret
      rw [HL.out]
      exact ⟨rfl, rfl⟩
    · have g1 : decide ((1 : Int) ≤ v) = false := by simp; omega
      have HL := Lib.hid (show rfit v 119 m = false by simp [rfit, h1])
      clear h1
      go_enter Tryd.func32, Tryd.ntmps32
      go_wp2_with fail
      go_ret
      rw [HL.out]
      exact ⟨rfl, rfl⟩
  have n6 : ((h.toNat : Int) == 119) = false := ne 119 e6
  have HL := Lib.hid (show rfit v h m = true by simp [rfit, e1, e2, e3, e4, e5, e6])
  clear d9 d7 d11 ne e1 e2 e3 e4 e5 e6
  go_enter Tryd.func32, Tryd.ntmps32
  go_wp2_with fail
  go_ret
  rw [HL.out]
  exact ⟨rfl, rfl⟩
end
end Go.Proofs.YtcedjjolikmbbaaDoor
