/- The document's answer for the slab: Free. Condition: its blocks are known. -/
import Derived.Test.YthblpnnbkjhmhaaDoorSRBlock
namespace Go.Proofs.YthblpnnbkjhmhaaDoor
open Go.RowKit
open Pool (cnt upd cnt_congr)

section
variable {n : Nat} {s : St} {T : Nat → List Nat}
theorem cnt_off1 {f : Nat → Bool} {j : Nat} (hf : f j = true) : ∀ {m : Nat}, j < m → cnt (upd f j false) m + 1 = cnt f m
  | 0, h => by omega
  | m + 1, h => by
    unfold cnt
    by_cases e : m = j
    · subst e
      rw [upd_same, hf, cnt_congr (g := f) fun i hi => upd_other f false (by omega)]
      simp
    · rw [upd_other f false e]
      have := cnt_off1 hf (m := m) (by omega)
      omega
/-- The taken lists behind a giving. -/
def giveT (T : Nat → List Nat) (x : Nat) : Nat → List Nat := updT T (x / 512) ((T (x / 512)).filter fun y => !decide (y = x))
theorem filt_mem {l : List Nat} {x y : Nat} : y ∈ l.filter (fun y => !decide (y = x)) ↔ y ∈ l ∧ y ≠ x := by simp
theorem give_T (hT : Tl s T) (hI : Inv n s) {x : Nat} (hx : Tkn s (x / 512) x) : Tl (frS n s x) (giveT T x) := by
  refine ⟨fun i a => ?_, fun i => ?_, fun i => ?_⟩
  · rw [frS_tkn hI hx, ← hT.mem]
    unfold giveT
    by_cases e : i = x / 512
    · subst e; rw [updT_same, filt_mem]
    · rw [updT_other _ _ e]
      refine ⟨fun h => ⟨h, ?_⟩, fun h => h.1⟩
      rintro rfl
      exact e (isB_tkn hI.toInv0 ((hT.mem i a).1 h)).2.2.symm
  · unfold giveT
    by_cases e : i = x / 512
    · subst e; rw [updT_same]; exact (hT.once _).filter _
    · rw [updT_other _ _ e]; exact hT.once i
  · obtain ⟨b1, _, _⟩ := isB_tkn hI.toInv0 hx
    have hC := isC_of hI.toInv0 hx.1
    obtain ⟨j, hj, ej⟩ := mem_blks.1 hx.1
    have hj32 : j < 32 := by have := hC.many; omega
    have e1 : frS n s x = givG s (x / 512) x := by unfold frS; rw [b1, Int.toNat_natCast]; rfl
    unfold giveT
    by_cases e : i = x / 512
    · subst e
      rw [updT_same]
      have hmem : x ∈ T (x / 512) := (hT.mem _ x).2 hx
      have hlen : ((T (x / 512)).filter fun y => !decide (y = x)).length + 1 = (T (x / 512)).length := by
        have h1 := List.length_erase_of_mem hmem
        have h2 : (T (x / 512)).erase x = (T (x / 512)).filter fun y => !decide (y = x) := by
          rw [(hT.once (x / 512)).erase_eq_filter]
          congr 1
        have h3 : 0 < (T (x / 512)).length := List.length_pos_of_mem hmem
        rw [← h2, h1]
        omega
      rw [hT.len] at hlen
      have hoff : cnt (upd (tk s (x / 512)) j false) 32 + 1 = cnt (tk s (x / 512)) 32 := by
        refine cnt_off1 ?_ hj32
        unfold tk
        rw [← ej]
        simp [hj, hx.2]
      have hput : tk (put s (x / 512) ((s (x / 512)).1, x :: (s (x / 512)).2)) (x / 512) = upd (tk s (x / 512)) j false := (tk_off rfl hC hj ej).symm
      have hres : cnt (tk (givG s (x / 512) x) (x / 512)) 32 = cnt (upd (tk s (x / 512)) j false) 32 := by
        unfold givG
        cases hF : allF (x / 512) (s (x / 512)).1 (x :: (s (x / 512)).2) with
        | true =>
          simp only [if_true]
          have h0 := (all_zero (s := s) (i := x / 512) (l := x :: (s (x / 512)).2) hC).2 hF
          have hz : ∀ m, m < 32 → tk (put s (x / 512) ((s (x / 512)).1, x :: (s (x / 512)).2)) (x / 512) m = false := by
            intro m hm
            have := congrArg (fun z => z.testBit m) h0
            simp only [Pool.num_testBit, Nat.zero_testBit] at this
            simpa [hm] using this
          rw [← hput, cnt_none hz]
          exact cnt_none fun m _ => by unfold tk; rw [put_same]; simp
        | false =>
          simp only [Bool.false_eq_true, if_false]
          rw [hput]
      rw [e1, hres]
      omega
    · rw [updT_other _ _ e, hT.len, e1]
      have : givG s (x / 512) x i = s i := by unfold givG; split <;> exact put_other _ _ e
      unfold tk
      rw [this]
/-- Nothing is left just if all are free. -/
theorem left_nil (hT : Tl s T) {x c : Nat} {l : List Nat} (hs : s (x / 512) = (c, l)) : (T (x / 512)).filter (fun y => !decide (y = x)) = [] ↔ allF (x / 512) c (x :: l) = true := by
  rw [List.filter_eq_nil_iff]
  unfold allF
  rw [List.all_eq_true]
  constructor
  · intro h b hb
    by_cases hl : b ∈ l
    · simp [hl]
    · have ht : Tkn s (x / 512) b := by unfold Tkn; rw [hs]; exact ⟨hb, hl⟩
      have := h b ((hT.mem _ b).2 ht)
      simp at this
      simp [this]
  · intro h b hb
    have ht := (hT.mem _ b).1 hb
    unfold Tkn at ht
    rw [hs] at ht
    have := h b ht.1
    simp [ht.2] at this
    simp [this]
end
end Go.Proofs.YthblpnnbkjhmhaaDoor
