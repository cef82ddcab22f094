/- The document's rows in the mind: first words, parts, words, which numbers fit, Check. No condition. -/
import Derived.Test.YtcedjjolikmbbaaDoorIMath
namespace Go.Proofs.YtcedjjolikmbbaaDoor

def fiT : List (List UInt8) := [[], [109, 111, 118], [105, 109, 109], [], [105], [106, 109, 112], [106], [106, 105], [115, 97, 118, 101], [108, 111, 97, 100], [103, 101, 116], [103, 101, 116, 120], [112, 117, 116], [112, 117, 116, 120], [99, 97, 108, 108], [101, 120, 105, 116]]
def paT : List (List (UInt8 × UInt8)) := [[], [(65, 114), (66, 114)], [(65, 114), (73, 110)], [(65, 114), (66, 114)], [(65, 114), (73, 110)], [(73, 43)], [(65, 114), (66, 114), (73, 43)], [(65, 114), (66, 110), (73, 43)],
  [(67, 115), (65, 114)], [(65, 114), (67, 115)], [(65, 114), (66, 114), (67, 102), (73, 110)], [(65, 114), (66, 114), (67, 102), (73, 120)], [(66, 114), (67, 102), (73, 110), (65, 114)], [(66, 114), (67, 102), (73, 120), (65, 114)], [(67, 119), (73, 110)], []]
def fiN (op : Nat) : List UInt8 := fiT.getD op []
def paN (op : Nat) : List (UInt8 × UInt8) := paT.getD op []
/-- Pairs laid flat. -/
def fl (l : List (UInt8 × UInt8)) : List UInt8 := l.flatMap fun p => [p.1, p.2]
def woN (op : Nat) : List (List UInt8) := if op = 3 ∨ op = 4 then aluT.tail else if op = 6 ∨ op = 7 then condT.tail else if op = 14 then helpT.tail else []
def nmN (op : Nat) : List (UInt8 × UInt8) := if 0 < (woN op).length ∧ op ≠ 14 then paN op ++ [(67, 119)] else paN op
def rvl (i : In) (c : UInt8) : Nat := if c = 65 then i.a else if c = 66 then i.b else if c = 67 then i.c else i.im
def rfit (v : Nat) (h : UInt8) (m : Nat) : Bool :=
  if h = 114 ∨ h = 120 then decide (v ≤ 9) else if h = 115 then decide (v ≤ 7) else if h = 102 then decide (v ≤ 11)
  else if h = 43 then decide (1 ≤ v ∧ v ≤ 127) else if h = 119 then decide (1 ≤ v ∧ v ≤ m) else true
def rfits (i : In) (p : UInt8 × UInt8) : Bool := rfit (rvl i p.1) p.2 (woN i.op).length
def rin (i : In) (c : UInt8) : Bool := (nmN i.op).any fun p => p.1 == c
def rbad (i : In) (c : UInt8) : Bool := !rin i c && decide (rvl i c ≠ 0)
def abci : List UInt8 := [65, 66, 67, 73]
def rck (i : In) : Nat := if i.op < 1 ∨ 15 < i.op then 3 else if (nmN i.op).all (rfits i) = true then (if abci.any (rbad i) = true then 1 else 0) else 4

theorem fl_len (l : List (UInt8 × UInt8)) : (fl l).length = 2 * l.length := by
  induction l with
  | nil => rfl
  | cons p r ih => simp only [fl, List.flatMap_cons, List.length_append, List.length_cons, List.length_nil] at ih ⊢; omega
theorem fl_at : ∀ {l : List (UInt8 × UInt8)} {j : Nat} {p : UInt8 × UInt8}, l[j]? = some p → (fl l)[2 * j]? = some p.1 ∧ (fl l)[2 * j + 1]? = some p.2
  | [], j, p, h => by simp at h
  | a :: r, 0, p, h => by simp at h; subst h; simp [fl]
  | a :: r, j + 1, p, h => by
    have := fl_at (l := r) (j := j) (by simpa using h)
    simp only [fl, List.flatMap_cons] at this ⊢
    refine ⟨?_, ?_⟩
    · rw [List.getElem?_append_right (by simp <;> omega)]; simpa [show 2 * (j + 1) - 2 = 2 * j by omega] using this.1
    · rw [List.getElem?_append_right (by simp <;> omega)]; simpa [show 2 * (j + 1) + 1 - 2 = 2 * j + 1 by omega] using this.2
theorem fl_app (a b : List (UInt8 × UInt8)) : fl (a ++ b) = fl a ++ fl b := by simp [fl]
theorem fifteen {op : Nat} (h : 1 ≤ op) (h2 : op ≤ 15) : op = 1 ∨ op = 2 ∨ op = 3 ∨ op = 4 ∨ op = 5 ∨ op = 6 ∨ op = 7 ∨ op = 8 ∨ op = 9 ∨ op = 10 ∨ op = 11 ∨ op = 12 ∨ op = 13 ∨ op = 14 ∨ op = 15 := by omega
theorem nmN_len {op : Nat} (h : 1 ≤ op) (h2 : op ≤ 15) : (nmN op).length ≤ 4 ∧ (paN op).length ≤ 4 ∧ (woN op).length ≤ 22 := by
  rcases fifteen h h2 with rfl | rfl | rfl | rfl | rfl | rfl | rfl | rfl | rfl | rfl | rfl | rfl | rfl | rfl | rfl <;> decide
theorem rck_ck (i : In) (hi : i.ok) : rck i = ck i := by
  obtain ⟨op, a, b, c, im⟩ := i
  obtain ⟨_, ha, hb, hc, him⟩ := hi
  simp only at ha hb hc him
  by_cases h : op < 1 ∨ 15 < op
  · unfold rck ck; rw [if_pos h, if_pos h]
  · rcases fifteen (op := op) (by omega) (by omega) with rfl | rfl | rfl | rfl | rfl | rfl | rfl | rfl | rfl | rfl | rfl | rfl | rfl | rfl | rfl
    all_goals
      simp only [rck, ck, nmN, paN, paT, woN, aluT, condT, helpT, List.tail_cons, rvl, rbad, rin, abci, rowN, rowsN, ckL, inR, lowN, highN, lowT, highT, opAt, wOp, List.getD_cons_zero, List.getD_cons_succ, List.any_cons, List.any_nil]
      simp
      try simp [rfits, rfit, rvl, woN, aluT, condT, helpT]
      (repeat' split) <;> first | rfl | omega
end Go.Proofs.YtcedjjolikmbbaaDoor
