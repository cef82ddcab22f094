/- What ChainBothWays asks of the lists in the mind: read from behind, and counted. No condition. -/
import Derived.Test.YthklbkgehfgdgaaDoorChOthersM
namespace Go.Proofs.YthklbkgehfgdgaaDoor

/-- The one ahead of the place j of a list; 0: none. -/
def bkv (l : List Nat) (j : Nat) : Nat := if j = 0 then 0 else (l[j - 1]?).getD 0
theorem bkv_zero (l : List Nat) : bkv l 0 = 0 := rfl
theorem bkv_succ (l : List Nat) (j : Nat) : bkv l (j + 1) = (l[j]?).getD 0 := by simp [bkv]
theorem en_bkv (L : Nat → List Nat) (h : Nat) : en L h false = bkv (L h) (L h).length := by
  unfold en
  have e : dl false (L h) = (L h).reverse := rfl
  rw [e, head_at]
  generalize L h = l
  cases l with
  | nil => rfl
  | cons a l =>
    rw [List.getElem?_reverse (by simp)]
    simp [bkv]
section
variable {L : Nat → List Nat} {f : Nat → Int} {h x : Nat}
theorem nx_bkv (c : Ch 512 H3 N14 L f) (hh : h ∈ H3) {j : Nat} (hj : (L h)[j]? = some x) : nx L x false = bkv (L h) j := by
  have hm : x ∈ L h := List.mem_of_getElem? hj
  have ho := c.ow_in hh hm
  unfold nx
  rw [ho, if_neg (h3_ne hh)]
  have hn := c.nod h hh
  have e : dl false (L h) = (L h).reverse := rfl
  have hn' : (L h).reverse.Nodup := by have := dl_nod (d := false) hn; rwa [e] at this
  obtain ⟨hlt, _⟩ := List.getElem?_eq_some_iff.1 hj
  have hr : (L h).reverse[(L h).length - 1 - j]? = some x := by
    rw [List.getElem?_reverse (by omega)]
    rw [show (L h).length - 1 - ((L h).length - 1 - j) = j by omega]
    exact hj
  rw [e, nxt_at hn' hr]
  cases j with
  | zero =>
    rw [bkv_zero, List.getElem?_eq_none (by rw [List.length_reverse]; omega)]
    rfl
  | succ j =>
    rw [bkv_succ, List.getElem?_reverse (by omega)]
    rw [show (L h).length - 1 - ((L h).length - 1 - (j + 1) + 1) = j by omega]
/-- What the inner loop asks. -/
theorem bk_at (c : Ch 512 H3 N14 L f) (hh : h ∈ H3) {j : Nat} (hj : j < (L h).length) :
    ∃ x, (L h)[j]? = some x ∧ N14 x ∧ ow L x = h ∧ nx L x false = bkv (L h) j ∧ bkv (L h) (j + 1) = x := by
  have e : (L h)[j]? = some ((L h)[j]'hj) := List.getElem?_eq_getElem hj
  refine ⟨(L h)[j]'hj, e, c.mem h hh _ (List.getElem_mem hj), c.ow_in hh (List.getElem_mem hj), nx_bkv c hh e, ?_⟩
  rw [bkv_succ, e]
  rfl
theorem nx_free (L : Nat → List Nat) {x : Nat} (d : Bool) (h : ow L x = 0) : nx L x d = 0 := by unfold nx; rw [if_pos h]
/-- So many of the first k nodes are in a list. -/
def ct (L : Nat → List Nat) (k : Nat) : Nat := ((sq k).filter (fun x => decide (ow L x ≠ 0))).length
theorem ct_succ (L : Nat → List Nat) (k : Nat) : ct L (k + 1) = ct L k + if ow L (ndN k) = 0 then 0 else 1 := by
  unfold ct
  rw [sq_snoc, List.filter_append, List.length_append]
  congr 1
  by_cases e : ow L (ndN k) = 0 <;> simp [e]
theorem ct_le (L : Nat → List Nat) (k : Nat) : ct L k ≤ k := by
  unfold ct
  have := List.length_filter_le (fun x => decide (ow L x ≠ 0)) (sq k)
  rwa [sq_len] at this
theorem ow_val (L : Nat → List Nat) (x : Nat) : ow L x = 0 ∨ ow L x = 8 ∨ ow L x = 16 ∨ ow L x = 24 := by
  unfold ow
  split
  · simp
  · split
    · simp
    · split <;> simp
theorem ct_sum (L : Nat → List Nat) : ∀ m : List Nat, (m.filter (fun x => decide (ow L x ≠ 0))).length = (m.filter (fun x => decide (ow L x = 8))).length + (m.filter (fun x => decide (ow L x = 16))).length + (m.filter (fun x => decide (ow L x = 24))).length
  | [] => rfl
  | x :: m => by
    have ih := ct_sum L m
    simp only [List.filter_cons]
    rcases ow_val L x with e | e | e | e <;> simp [e] at ih ⊢ <;> omega
theorem len_ow (c : Ch 512 H3 N14 L f) (hh : h ∈ H3) : (L h).length = ((sq 14).filter (fun x => decide (ow L x = h))).length := by
  have h1 := len_le ((sq 14).filter (fun x => decide (ow L x = h))) (L h) (c.nod h hh) (fun x hx => by
    obtain ⟨k, hk, e⟩ := c.mem h hh x hx
    refine List.mem_filter.2 ⟨?_, by simp [c.ow_in hh hx]⟩
    rw [e, ← ndN_of hk]
    exact List.mem_of_getElem? (sq_at hk))
  have h2 := len_le (L h) ((sq 14).filter (fun x => decide (ow L x = h))) ((sq_nod (Nat.le_refl _)).sublist List.filter_sublist) (fun x hx => by
    have := (List.mem_filter.1 hx).2
    exact (c.mem_ow hh).2 (by simpa using this))
  omega
/-- So many are in the first heads' lists. -/
def cl (L : Nat → List Nat) : Nat → Nat
  | 0 => 0
  | k + 1 => cl L k + (L (hdN k)).length
theorem cl_all (c : Ch 512 H3 N14 L f) : cl L 3 = ct L 14 := by
  have e8 := len_ow c (h := 8) (by decide)
  have e16 := len_ow c (h := 16) (by decide)
  have e24 := len_ow c (h := 24) (by decide)
  unfold ct
  rw [ct_sum]
  show 0 + (L (hdN 0)).length + (L (hdN 1)).length + (L (hdN 2)).length = _
  rw [show hdN 0 = 8 from rfl, show hdN 1 = 16 from rfl, show hdN 2 = 24 from rfl]
  omega
theorem cl_le (c : Ch 512 H3 N14 L f) : ∀ {k : Nat}, k ≤ 3 → cl L k ≤ 14 * k
  | 0, _ => Nat.zero_le _
  | k + 1, h => by
    have := cl_le c (k := k) (by omega)
    have h2 := c.len (hdN_in k)
    unfold cl
    omega
end
end Go.Proofs.YthklbkgehfgdgaaDoor
