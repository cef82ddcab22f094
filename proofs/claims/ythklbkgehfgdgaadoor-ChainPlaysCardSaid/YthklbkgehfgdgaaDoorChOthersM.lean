/- What ChainOthers makes of the lists in the mind. No condition. -/
import Derived.Test.YthklbkgehfgdgaaDoorChDeeds
namespace Go.Proofs.YthklbkgehfgdgaaDoor

theorem gR_other (L : Nat → List Nat) {h x k : Nat} (hk : k ≠ h) : gR L h x k = L k := by
  unfold gR
  split
  · exact upL_other _ _ hk
  · rfl
theorem gP_other (L : Nat → List Nat) {h x k : Nat} (d : Bool) (hk : k ≠ h) : gP L h x d k = L k := by
  unfold gP
  split
  · exact upL_other _ _ hk
  · rfl
theorem ow_zero {L : Nat → List Nat} {x : Nat} (h : ∀ k, k ∈ H3 → x ∉ L k) : ow L x = 0 := by
  unfold ow
  rw [if_neg (h 8 (by decide)), if_neg (h 16 (by decide)), if_neg (h 24 (by decide))]
section
variable {L : Nat → List Nat} {f : Nat → Int} {h x : Nat}
theorem oth_in (c : Ch 512 H3 N14 L f) (hh : h ∈ H3) (e : ow L x = h) : gRe L h x = 0 ∧ gPe (gR L h x) x = 0 := by
  have hm : x ∈ L h := (c.mem_ow hh).2 e
  unfold gRe gPe
  rw [if_pos hm]
  refine ⟨rfl, ?_⟩
  have : ow (gR L h x) x = 0 := ow_zero fun k hk hmk => by
    by_cases ek : k = h
    · subst ek
      unfold gR at hmk
      rw [if_pos hm, upL_same] at hmk
      exact List.Nodup.not_mem_erase (c.nod k hk) hmk
    · rw [gR_other L ek] at hmk
      exact ek (c.one k h hk hh x hmk hm)
  rw [if_pos this]
theorem oth_out (c : Ch 512 H3 N14 L f) (hh : h ∈ H3) (e : ow L x ≠ h) : gRe L h x = 8 ∧ gR L h x = L := by
  have hm : x ∉ L h := fun hm => e ((c.mem_ow hh).1 hm)
  unfold gRe gR
  rw [if_neg hm, if_neg hm]
  exact ⟨rfl, rfl⟩
theorem h3_ne {h : Nat} (hh : h ∈ H3) : h ≠ 0 := by rintro rfl; exact absurd hh (by decide)
end
end Go.Proofs.YthklbkgehfgdgaaDoor
