/- How many bytes are taken, and how many pages are somebody's, behind a taking and a giving. No condition. -/
import Derived.Test.YthblpnnbkjhmhaaDoorSRows
namespace Go.Proofs.YthblpnnbkjhmhaaDoor
open Go.RowKit
open Pool (num cnt upd Pl low setR num_testBit quiet_same cnt_le cnt_congr)

theorem cnt_none {f : Nat → Bool} : ∀ {m : Nat}, (∀ i, i < m → f i = false) → cnt f m = 0
  | 0, _ => rfl
  | m + 1, h => by
    unfold cnt
    rw [cnt_none fun i hi => h i (by omega), h m (by omega)]
    rfl
theorem cnt_upd {f : Nat → Bool} {j : Nat} (hf : f j = false) : ∀ {m : Nat}, j < m → cnt (upd f j true) m = cnt f m + 1
  | 0, h => by omega
  | m + 1, h => by
    unfold cnt
    by_cases e : m = j
    · subst e
      rw [upd_same, hf, cnt_congr (g := f) fun i hi => upd_other f true (by omega)]
      simp
    · rw [upd_other f true e, cnt_upd hf (by omega)]
      omega
/-- One page's part turns. -/
theorem usd_step {s s' : St} {k d e : Nat} (ho : ∀ i, i ≠ k → s' i = s i) (hk : (s' k).1 * cnt (tk s' k) 32 + e = (s k).1 * cnt (tk s k) 32 + d) : ∀ {n : Nat}, k < n → usd s' n + e = usd s n + d
  | 0, h => by omega
  | n + 1, h => by
    have same : ∀ m, m ≤ k → usd s' m = usd s m := by
      intro m hm
      induction m with
      | zero => rfl
      | succ m ih =>
        unfold usd
        rw [ih (by omega)]
        have : s' m = s m := ho m (by omega)
        unfold tk
        rw [this]
    by_cases h2 : n = k
    · subst h2
      unfold usd
      rw [same n (Nat.le_refl _)]
      omega
    · have := usd_step ho hk (n := n) (by omega)
      unfold usd
      have h3 : s' n = s n := ho n h2
      have h4 : tk s' n = tk s n := by unfold tk; rw [h3]
      rw [h3, h4]
      omega
theorem pgs_step {s s' : St} {k d e : Nat} (ho : ∀ i, i ≠ k → s' i = s i) (hk : (if (s' k).1 = 0 then 0 else 1) + e = (if (s k).1 = 0 then 0 else 1) + d) : ∀ {n : Nat}, k < n → pgs s' n + e = pgs s n + d
  | 0, h => by omega
  | n + 1, h => by
    have same : ∀ m, m ≤ k → pgs s' m = pgs s m := by
      intro m hm
      induction m with
      | zero => rfl
      | succ m ih =>
        unfold pgs
        rw [ih (by omega)]
        have : s' m = s m := ho m (by omega)
        rw [this]
    by_cases h2 : n = k
    · subst h2
      unfold pgs
      rw [same n (Nat.le_refl _)]
      omega
    · have := pgs_step ho hk (n := n) (by omega)
      unfold pgs
      have h3 : s' n = s n := ho n h2
      rw [h3]
      omega
section
variable {n : Nat} {s : St} {size : Int} {k a : Nat} {l : List Nat} {s1 : St}
theorem Got.cntk (h : Got n s size k a l s1) : cnt (tk (alS n s size) k) 32 = cnt (tk s1 k) 32 + 1 := by
  obtain ⟨j, hj, e⟩ := mem_blks.1 h.mem
  have hC := clsOf_isC size
  have hj32 : j < 32 := by have := hC.many; omega
  rw [h.st, tk_pop h.inv h.at_ hj e hC]
  refine cnt_upd ?_ hj32
  unfold tk
  rw [h.at_]
  dsimp only
  rw [← e]
  simp
theorem Got.usd (h : Got n s size k a l s1) : usd (alS n s size) n = usd s n + clsOf size := by
  have := usd_step (s := s) (s' := alS n s size) (k := k) (d := clsOf size) (e := 0) (fun i hi => h.other hi) ?_ h.lt
  · omega
  · rw [h.cntk, h.after]
    dsimp only
    rcases h.from_ with ⟨hs, rfl⟩ | ⟨h0, hs1, _⟩
    · rw [hs]
      dsimp only
      rw [Nat.mul_add]
      omega
    · rw [h0]
      have : cnt (tk s1 k) 32 = 0 := cnt_none fun j _ => by
        unfold tk
        rw [hs1, asg_at]
        by_cases hj : j < 512 / clsOf size
        · simp [mem_blks.2 ⟨j, hj, rfl⟩]
        · simp [hj]
      rw [this]
      omega
end
end Go.Proofs.YthblpnnbkjhmhaaDoor
