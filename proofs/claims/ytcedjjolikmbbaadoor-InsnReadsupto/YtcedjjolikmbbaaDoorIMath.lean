/- Instructions in the mind: the tables, Check, Text, Read as plain functions of five numbers and of lists of bytes. No condition. -/
import Derived.Lib.ItoaNum
import Derived.Lib.ParseIntB
import Derived.Lib.Strings
namespace Go.Proofs.YtcedjjolikmbbaaDoor

/-- An instruction: five numbers. -/
structure In where
  op : Nat
  a : Nat
  b : Nat
  c : Nat
  im : Nat
deriving DecidableEq
def In.ok (i : In) : Prop := i.op < 256 ∧ i.a < 256 ∧ i.b < 256 ∧ i.c < 256 ∧ i.im < 4294967296
def in0 : In := ⟨0, 0, 0, 0, 0⟩
theorem in0_ok : in0.ok := by simp [In.ok, in0]
def rowsN : List (List (Nat × Nat)) := [[(0, 0), (0, 0), (0, 0), (0, 0)],
  [(1, 1), (2, 1), (0, 0), (0, 0)], [(1, 1), (4, 4), (0, 0), (0, 0)], [(3, 7), (1, 1), (2, 1), (0, 0)], [(3, 7), (1, 1), (4, 4), (0, 0)],
  [(4, 6), (0, 0), (0, 0), (0, 0)], [(3, 8), (1, 1), (2, 1), (4, 6)], [(3, 8), (1, 1), (2, 5), (4, 6)], [(3, 2), (1, 1), (0, 0), (0, 0)],
  [(1, 1), (3, 2), (0, 0), (0, 0)], [(1, 1), (2, 1), (3, 3), (4, 4)], [(1, 1), (2, 1), (3, 3), (4, 1)], [(2, 1), (3, 3), (4, 4), (1, 1)],
  [(2, 1), (3, 3), (4, 1), (1, 1)], [(3, 9), (4, 4), (0, 0), (0, 0)], [(0, 0), (0, 0), (0, 0), (0, 0)]]
def rowN (op : Nat) : List (Nat × Nat) := rowsN.getD op []
def lowT : List Nat := [0, 0, 0, 0, 0, 0, 1, 1, 1, 1]
def highT : List Nat := [0, 9, 7, 11, 4294967295, 255, 127, 11, 9, 22]
def signT : List (List UInt8) := [[], [114], [115], [102], [], [], [43], [], [], []]
def lowN (f : Nat) : Nat := lowT.getD f 0
def highN (f : Nat) : Nat := highT.getD f 0
def signN (f : Nat) : List UInt8 := signT.getD f []
def opsT : List (List UInt8) := [[], [109, 111, 118], [105, 109, 109], [], [], [106, 109, 112], [], [], [115, 97, 118, 101], [108, 111, 97, 100], [103, 101, 116], [103, 101, 116, 120], [112, 117, 116], [112, 117, 116, 120], [99, 97, 108, 108], [101, 120, 105, 116]]
def aluT : List (List UInt8) := [[], [97, 100, 100], [115, 117, 98], [109, 117, 108], [100, 105, 118], [109, 111, 100], [97, 110, 100], [111, 114], [120, 111, 114], [115, 104, 108], [115, 104, 114], [115, 97, 114]]
def condT : List (List UInt8) := [[], [101, 113], [110, 101], [108, 116], [108, 101], [103, 116], [103, 101], [115, 108, 116], [115, 103, 101], [115, 101, 116]]
def helpT : List (List UInt8) := [[],
  [110, 101, 119], [100, 114, 111, 112], [97, 99, 113, 117, 105, 114, 101], [108, 111, 111, 107, 117, 112], [105, 110, 115, 101, 114, 116], [100, 101, 108, 101, 116, 101],
  [108, 111, 99, 107], [117, 110, 108, 111, 99, 107], [112, 117, 115, 104, 102, 114, 111, 110, 116], [112, 117, 115, 104, 98, 97, 99, 107], [112, 111, 112, 102, 114, 111, 110, 116],
  [112, 111, 112, 98, 97, 99, 107], [102, 114, 111, 110, 116], [116, 114, 101, 101, 97, 100, 100], [116, 114, 101, 101, 102, 105, 114, 115, 116], [116, 114, 101, 101, 108, 101, 102, 116],
  [116, 114, 101, 101, 114, 105, 103, 104, 116], [116, 114, 101, 101, 103, 111, 110, 101], [115, 119, 97, 112], [112, 101, 101, 107], [114, 99, 117, 108, 111, 99, 107], [114, 99, 117, 117, 110, 108, 111, 99, 107]]

/-- The value at a place. -/
def opAt (i : In) (p : Nat) : Nat := if p = 1 then i.a else if p = 2 then i.b else if p = 3 then i.c else if p = 4 then i.im else 0
def wOp (i : In) (p v : Nat) : In :=
  if p = 1 then { i with a := v % 256 } else if p = 2 then { i with b := v % 256 } else if p = 3 then { i with c := v % 256 } else if p = 4 then { i with im := v } else i
def inR (f v : Nat) : Bool := decide (lowN f ≤ v ∧ v ≤ highN f)
def ckL (i : In) : List (Nat × Nat) → In → Nat
  | [], rest => if rest = ⟨i.op, 0, 0, 0, 0⟩ then 0 else 1
  | o :: r, rest => if inR o.2 (opAt i o.1) = true then ckL i r (wOp rest o.1 0) else 4
/-- Check's answer. -/
def ck (i : In) : Nat := if i.op < 1 ∨ 15 < i.op then 3 else ckL i (rowN i.op) i

def fwF (f : Nat) : Bool := decide (f = 7 ∨ f = 8)
def hw (p f : Nat) : Bool := decide (p ≠ 0) && !fwF f
/-- The first word. -/
def fw (i : In) : List UInt8 :=
  if i.op = 3 then aluT.getD i.c [] else if i.op = 4 then aluT.getD i.c [] ++ [105] else if i.op = 6 then 106 :: condT.getD i.c []
  else if i.op = 7 then 106 :: (condT.getD i.c [] ++ [105]) else opsT.getD i.op []
/-- A word. -/
def wd (f v : Nat) : List UInt8 := if f = 9 then helpT.getD v [] else signN f ++ Lib.decDigits v
def txL (i : In) : List (Nat × Nat) → List UInt8 → List UInt8
  | [], s => s
  | o :: r, s => if hw o.1 o.2 = true then txL i r (s ++ (32 :: wd o.2 (opAt i o.1))) else txL i r s
/-- Text's string. -/
def tx (i : In) : List UInt8 := if ck i = 0 then txL i (rowN i.op) (fw i) else []

/-- A text's parts between blanks. -/
def sp : List UInt8 → List (List UInt8)
  | [] => [[]]
  | c :: r => if c = 32 then [] :: sp r else match sp r with
    | [] => [[c]]
    | h :: t => (c :: h) :: t
/-- All first words, with what each leads to. -/
def fe (op c : Nat) : List UInt8 × In := (fw ⟨op, 0, 0, c, 0⟩, ⟨op, 0, 0, c, 0⟩)
/-- Those of one operation, with C below c, the last one first. -/
def feC (op : Nat) : Nat → List (List UInt8 × In)
  | 0 => []
  | c + 1 => if c = 0 then [] else fe op c :: feC op c
def feN (op : Nat) : List (List UInt8 × In) := let f := ((rowN op).getD 0 (0, 0)).2
  if fwF f = true then feC op (highN f + 1) else [fe op 0]
/-- Those of all operations below op, the last one first. -/
def feP : Nat → List (List UInt8 × In)
  | 0 => []
  | op + 1 => if op = 0 then [] else feN op ++ feP op
def lk (l : List (List UInt8 × In)) (w : List UInt8) : Option In := (l.find? fun q => q.1 == w).map (·.2)
def look (w : List UInt8) : Option In := lk (feP 16) w
def rdDec (d : List UInt8) : Option Nat := match Lib.parseUintB 32 d with
  | .ok u => if Lib.decDigits u = d then some u else none
  | _ => none
def rdHelp (w : List UInt8) : Nat → Nat → Option Nat
  | _, 0 => none
  | c, n + 1 => if helpT.getD c [] = w then some c else rdHelp w (c + 1) n
/-- A word read. -/
def rw (f : Nat) (w : List UInt8) : Option Nat :=
  if f = 9 then rdHelp w 1 22
  else if Lib.hasPrefix w (signN f) = true then (rdDec (w.drop (signN f).length)).bind fun v => if inR f v = true then some v else none
  else none
def rdL : List (Nat × Nat) → In → List (List UInt8) → Option In
  | [], i, ws => if ws = [] then some i else none
  | o :: r, i, ws => if hw o.1 o.2 = true then match ws with
      | [] => none
      | w :: t => match rw o.2 w with
        | none => none
        | some v => rdL r (wOp i o.1 v) t
    else rdL r i ws
/-- Read's instruction, if there is one. -/
def rd (s : List UInt8) : Option In := match sp s with
  | [] => none
  | w :: t => match look w with
    | none => none
    | some i => rdL (rowN i.op) i t

theorem opAt_lt {i : In} (h : i.ok) (p : Nat) : opAt i p < 4294967296 := by
  unfold opAt
  obtain ⟨_, _, _, _, _⟩ := h
  (repeat' split) <;> omega
theorem wOp_ok {i : In} (h : i.ok) (p v : Nat) (hv : v < 4294967296) : (wOp i p v).ok := by
  obtain ⟨h1, h2, h3, h4, h5⟩ := h
  unfold wOp In.ok
  (repeat' split) <;> (refine ⟨?_, ?_, ?_, ?_, ?_⟩ <;> (try simp only) <;> omega)
theorem row_fin : ∀ op : Fin 16, ∃ p0 f0 p1 f1 p2 f2 p3 f3, rowN op = [(p0, f0), (p1, f1), (p2, f2), (p3, f3)] ∧ p0 < 5 ∧ f0 < 10 ∧ p1 < 5 ∧ f1 < 10 ∧ p2 < 5 ∧ f2 < 10 ∧ p3 < 5 ∧ f3 < 10 := by
  intro op
  obtain ⟨op, h⟩ := op
  match op, h with
  | 0, _ | 1, _ | 2, _ | 3, _ | 4, _ | 5, _ | 6, _ | 7, _ | 8, _ | 9, _ | 10, _ | 11, _ | 12, _ | 13, _ | 14, _ | 15, _ => exact ⟨_, _, _, _, _, _, _, _, rfl, by decide, by decide, by decide, by decide, by decide, by decide, by decide, by decide⟩
  | n + 16, h => omega
theorem ck_le (i : In) : ck i = 0 ∨ ck i = 1 ∨ ck i = 3 ∨ ck i = 4 := by
  have h : ∀ l r, ckL i l r = 0 ∨ ckL i l r = 1 ∨ ckL i l r = 4 := by
    intro l
    induction l with
    | nil => intro r; unfold ckL; split <;> simp
    | cons o t ih => intro r; unfold ckL; split; exact ih _; simp
  unfold ck
  split
  · simp
  · rcases h (rowN i.op) i with e | e | e <;> simp [e]
end Go.Proofs.YtcedjjolikmbbaaDoor
