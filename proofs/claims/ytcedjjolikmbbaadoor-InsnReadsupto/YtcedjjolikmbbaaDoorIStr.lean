/- A string of bytes that can be read. No condition. -/
import Derived.Test.YtcedjjolikmbbaaDoorIRows
namespace Go.Proofs.YtcedjjolikmbbaaDoor
open Go.RowKit
theorem run_strA {w : World} {A : Option Addr} {k cap : Nat} {bs : List Nat} (h : Rd w A k cap bs) :
    (convert 40 9 (.slice A k cap)).run Tryd.prog w = .ok (.string (sb bs)) w := by
  rcases Nat.eq_zero_or_pos k with h0 | hp
  · have hb : bs = [] := List.eq_nil_of_length_eq_zero (by rw [h.len]; exact h0)
    subst hb
    subst h0
    cases A with
    | none => exact run_convert_bytes_nil (P := Tryd.prog) w 40 5 Tryd.underlying40 Tryd.underlying5 0 cap 9 Tryd.underlying9
    | some a => exact run_convert_bytes_back (P := Tryd.prog) w 40 9 5 a cap [] Tryd.underlying40 Tryd.underlying5 Tryd.underlying9 (by intro j hj; simp at hj)
  · exact run_str h hp
/-- A cut ahead of a slice. -/
theorem Rd.upto {w : World} {A : Option Addr} {k cap : Nat} {bs : List Nat} (h : Rd w A k cap bs) (c : Nat) (hc : c ≤ k) : Rd w A c cap (bs.take c) := by
  have hl := h.len
  have hle := h.le
  refine ⟨fun i y hi => ?_, by simp; omega, by omega, h.max, h.nil⟩
  have hic : i < c := by
    rcases Nat.lt_or_ge i c with hlt | hge
    · exact hlt
    · rw [List.getElem?_eq_none (by simp; omega)] at hi; cases hi
  rw [List.getElem?_take, if_pos hic] at hi
  exact h.cells i y hi
end Go.Proofs.YtcedjjolikmbbaaDoor
