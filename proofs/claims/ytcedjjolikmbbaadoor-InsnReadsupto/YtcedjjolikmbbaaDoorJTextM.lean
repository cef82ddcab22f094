/- The document's Text in the mind. No condition. -/
import Derived.Test.YtcedjjolikmbbaaDoorJMath
import Derived.Test.YtcedjjolikmbbaaDoorIText
namespace Go.Proofs.YtcedjjolikmbbaaDoor
/-- The word that C names. -/
def rwo (i : In) : List UInt8 := (woN i.op).getD (i.c - 1) []
def rfw (i : In) : List UInt8 := if i.op = 3 then rwo i else if i.op = 4 then rwo i ++ [105] else if i.op = 6 then 106 :: rwo i else if i.op = 7 then 106 :: (rwo i ++ [105]) else fiN i.op
def rwd (i : In) (p : UInt8 × UInt8) : List UInt8 :=
  if p.2 = 114 ∨ p.2 = 120 then 114 :: Lib.decDigits (rvl i p.1) else if p.2 = 115 ∨ p.2 = 102 ∨ p.2 = 43 then p.2 :: Lib.decDigits (rvl i p.1)
  else if p.2 = 119 then (woN i.op).getD (rvl i p.1 - 1) [] else Lib.decDigits (rvl i p.1)
def rtxL (i : In) (l : List (UInt8 × UInt8)) (s : List UInt8) : List UInt8 := l.foldl (fun s p => s ++ (32 :: rwd i p)) s
theorem rtxL_succ (i : In) {l : List (UInt8 × UInt8)} {j : Nat} {p : UInt8 × UInt8} (h : l[j]? = some p) (s : List UInt8) : rtxL i (l.take (j + 1)) s = rtxL i (l.take j) s ++ (32 :: rwd i p) := by
  unfold rtxL
  rw [List.take_add_one, h]
  simp [List.foldl_append]
theorem ck_fit {i : In} (hi : i.ok) (h : ck i = 0) : (1 ≤ i.op ∧ i.op ≤ 15) ∧ ∀ p ∈ nmN i.op, rfits i p = true := by
  rw [← rck_ck i hi] at h
  unfold rck at h
  split at h
  · cases h
  · split at h
    · rename_i h1 h2
      exact ⟨by omega, List.all_eq_true.1 h2⟩
    · cases h
theorem rfw_fw {i : In} (hi : i.ok) (h : ck i = 0) : rfw i = fw i := by
  obtain ⟨⟨h1, h2⟩, hf⟩ := ck_fit hi h
  obtain ⟨op, a, b, c, im⟩ := i
  simp only at h1 h2 hf
  rcases fifteen h1 h2 with rfl | rfl | rfl | rfl | rfl | rfl | rfl | rfl | rfl | rfl | rfl | rfl | rfl | rfl | rfl
  all_goals first
    | rfl
    | (have h3 : 1 ≤ c := by
        have := hf (67, 119) (by decide)
        simp [rfits, rfit, rvl] at this
        exact this.1
       simp [rfw, fw, rwo, woN, Nat.sub_add_cancel h3])
theorem rtx_tx {i : In} (hi : i.ok) (h : ck i = 0) : rtxL i (paN i.op) (fw i) = tx i := by
  obtain ⟨⟨h1, h2⟩, hf⟩ := ck_fit hi h
  unfold tx
  rw [if_pos h]
  obtain ⟨op, a, b, c, im⟩ := i
  simp only at h1 h2 hf ⊢
  clear h hi
  generalize fw ⟨op, a, b, c, im⟩ = s
  rcases fifteen h1 h2 with rfl | rfl | rfl | rfl | rfl | rfl | rfl | rfl | rfl | rfl | rfl | rfl | rfl | rfl | rfl
  all_goals first
    | (have h3 : 1 ≤ c := by
        have := hf (67, 119) (by decide)
        simp [rfits, rfit, rvl] at this
        exact this.1
       simp [rtxL, paN, paT, rwd, rvl, rowN, rowsN, txL, hw, fwF, wd, signN, signT, opAt, woN, Nat.sub_add_cancel h3])
    | simp [rtxL, paN, paT, rwd, rvl, rowN, rowsN, txL, hw, fwF, wd, signN, signT, opAt]
theorem wo_len (op c : Nat) : ((woN op).getD c []).length ≤ 20 := by
  have go : ∀ l : List (List UInt8), (∀ x ∈ l, x.length ≤ 20) → (l.getD c []).length ≤ 20 := fun l hl => by
    rw [List.getD_eq_getElem?_getD]
    cases e : l[c]? with
    | none => simp
    | some x => exact hl x (List.mem_of_getElem? e)
  unfold woN
  split
  · exact go _ (by decide)
  · split
    · exact go _ (by decide)
    · split
      · exact go _ (by decide)
      · simp
theorem rwd_len {i : In} (hi : i.ok) (p : UInt8 × UInt8) : (rwd i p).length ≤ 20 := by
  have h1 : rvl i p.1 < 4294967296 := by
    obtain ⟨_, _, _, _, _⟩ := hi
    unfold rvl
    (repeat' split) <;> omega
  have h2 := dec_len10 _ h1
  have h3 := wo_len i.op (rvl i p.1 - 1)
  unfold rwd
  (repeat' split) <;> (try simp only [List.length_cons]) <;> omega
theorem rtxL_len {i : In} (hi : i.ok) : ∀ (l : List (UInt8 × UInt8)) (s : List UInt8), (rtxL i l s).length ≤ s.length + 21 * l.length
  | [], s => by simp [rtxL]
  | p :: r, s => by
    have h1 := rwd_len hi p
    have h2 := rtxL_len hi r (s ++ (32 :: rwd i p))
    simp only [rtxL, List.foldl_cons, List.length_append, List.length_cons] at h2 ⊢
    omega
end Go.Proofs.YtcedjjolikmbbaaDoor
