/- What ChainMoves makes of the lists in the mind; words for quiet calls. No condition. -/
import Derived.Test.YthklbkgehfgdgaaDoorChEndsM
namespace Go.Proofs.YthklbkgehfgdgaaDoor
open Go.RowKit

theorem quiet_sm {P : Program} {f : FuncId} {args : Array Value} {w : World} {n : Nat} {v : Value}
    (h : Calls P f args (w.drewN n) fun e w' => e = .returned v ∧ w.drewN n = w') : Calls P f args (w.drewN n) fun e w'' => e = .returned v ∧ ∃ m, w'' = w.drewN m :=
  h.mono fun _ _ ⟨he, hm⟩ => ⟨he, n, hm.symm⟩
theorem Cs.drewN {w0 w : World} {p g : Nat} {L : Nat → List Nat} {f : Nat → Int} (c : Cs w0 w p g L f) (m : Nat) : Cs w0 (w.drewN m) p g L f := c.below ⟨rfl, rfl, rfl, Nat.le_refl _, fun _ _ => rfl⟩
theorem Kx.drewN {B : Bx} (w : World) (m : Nat) : Kx B w (w.drewN m) := ⟨Nat.le_refl _, fun _ _ _ => rfl⟩

/-- All but the one of the place c. -/
def mv (m c : Nat) : List Nat := (sq m).eraseIdx c
theorem mv_erase {m c : Nat} (hm : m ≤ 14) (hc : c < m) : (sq m).erase (ndN c) = mv m c := by
  obtain ⟨hj, hat⟩ := List.getElem?_eq_some_iff.1 (sq_at hc)
  have hs : sq m = (sq m).take c ++ ndN c :: (sq m).drop (c + 1) := by
    rw [← hat, List.getElem_cons_drop, List.take_append_drop]
  have hno : ndN c ∉ (sq m).take c := by
    have hn := sq_nod hm
    rw [hs] at hn
    intro h
    exact (List.nodup_append.1 hn).2.2 _ h (ndN c) (by simp) rfl
  unfold mv
  rw [List.eraseIdx_eq_take_drop_succ]
  conv => lhs; rw [hs]
  exact erase_split hno
theorem mv_len {m c : Nat} (hc : c < m + 1) : (mv (m + 1) c).length = m := by
  unfold mv
  rw [List.length_eraseIdx, sq_len]
  rw [if_pos hc]
  rfl
theorem mv_at {m c k : Nat} (hk : k < m) (hne : k ≠ c) : (mv m c)[if k ≤ c then k else k - 1]? = some (ndN k) := by
  unfold mv
  rw [List.getElem?_eraseIdx]
  by_cases h : k ≤ c
  · rw [if_pos h, if_pos (by omega), sq_at hk]
  · rw [if_neg h, if_neg (by omega), sq_at (by omega)]
    congr 2
    omega
theorem mv_not {m c : Nat} (hm : m ≤ 14) (hc : c < m) : ndN c ∉ mv m c := by
  rw [← mv_erase hm hc]
  exact List.Nodup.not_mem_erase (sq_nod hm)
def M1 (m c : Nat) : Nat → List Nat := upL E0 8 (mv m c)
def M2 (m c : Nat) : Nat → List Nat := upL (M1 m c) 16 [ndN c]
theorem M2_8 (m c : Nat) : M2 m c 8 = mv m c := by
  unfold M2 M1
  rw [upL_other _ _ (by decide), upL_same]
theorem M2_16 (m c : Nat) : M2 m c 16 = [ndN c] := by
  unfold M2
  rw [upL_same]
theorem EL_false (m : Nat) : EL false m = upL E0 8 (sq m) := rfl
theorem M1_cut {m c : Nat} (hm : m ≤ 14) (hc : c < m) : gR (EL false m) 8 (ndN c) = M1 m c ∧ gRe (EL false m) 8 (ndN c) = 0 := by
  have hin : ndN c ∈ EL false m 8 := by
    rw [EL_false, upL_same]
    exact List.mem_of_getElem? (sq_at hc)
  unfold gR gRe
  rw [if_pos hin, if_pos hin]
  refine ⟨?_, rfl⟩
  rw [EL_false, upL_twice, upL_same, mv_erase hm hc]
  rfl
theorem M2_push {m c : Nat} (hm : m ≤ 14) (hc : c < m) (d : Bool) : gP (M1 m c) 16 (ndN c) d = M2 m c ∧ gPe (M1 m c) (ndN c) = 0 := by
  have h0 : ow (M1 m c) (ndN c) = 0 := ow_E (mv_not hm hc)
  unfold gP gPe
  rw [if_pos h0, if_pos h0]
  refine ⟨?_, rfl⟩
  unfold M2
  congr 1
  have : M1 m c 16 = [] := by unfold M1; rw [upL_other _ _ (by decide)]
  rw [this]
  cases d <;> rfl
theorem M2_not {m c : Nat} (hm : m ≤ 14) (hc : c < m) : gR (M2 m c) 8 (ndN c) = M2 m c ∧ gRe (M2 m c) 8 (ndN c) = 8 := by
  have : ndN c ∉ M2 m c 8 := by rw [M2_8]; exact mv_not hm hc
  unfold gR gRe
  rw [if_neg this, if_neg this]
  exact ⟨rfl, rfl⟩
end Go.Proofs.YthklbkgehfgdgaaDoor
