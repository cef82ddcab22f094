/- Bytes and Parse undo each other: in the mind. Condition: the instructions' numbers fit their kinds. -/
import Derived.Test.YtcedjjolikmbbaaDoorIParse
import Derived.Test.YtcedjjolikmbbaaDoorITwice2
namespace Go.Proofs.YtcedjjolikmbbaaDoor

theorem d8_e8 {i : In} (h : i.ok) (r : List Nat) : d8 ((e8 i ++ r).take 8) = i := by
  obtain ⟨op, a, b, c, im⟩ := i
  obtain ⟨_, _, _, _, h5⟩ := h
  simp only at h5
  simp [e8, im4, d8]
  omega
theorem dI_cons {bs : List Nat} (h : 8 ≤ bs.length) : dI bs = d8 (bs.take 8) :: dI (bs.drop 8) := by
  unfold dI
  have e : bs.length / 8 = (bs.drop 8).length / 8 + 1 := by rw [List.length_drop]; omega
  rw [e, List.range_succ_eq_map, List.map_cons, List.map_map]
  congr 1
  apply List.map_congr_left
  intro n _
  simp only [Function.comp, List.drop_drop]
  rw [show (n + 1) * 8 = 8 + n * 8 by omega]
theorem dI_nil {bs : List Nat} (h : bs.length < 8) : dI bs = [] := by
  unfold dI
  rw [Nat.div_eq_of_lt h]
  rfl
theorem e8_len (i : In) : (e8 i).length = 8 := by simp [e8, im4]
theorem dI_byI : ∀ {l : List In}, (∀ i ∈ l, i.ok) → dI (byI l) = l
  | [], _ => dI_nil (by simp [byI])
  | i :: r, h => by
    have e : byI (i :: r) = e8 i ++ byI r := by simp [byI]
    rw [e, dI_cons (by rw [List.length_append, e8_len]; omega), d8_e8 (h i (List.mem_cons_self ..))]
    rw [List.drop_append_of_le_length (by rw [e8_len]; omega), List.drop_eq_nil_of_le (by rw [e8_len]; omega), List.nil_append, dI_byI fun x hx => h x (List.mem_cons_of_mem _ hx)]
theorem e8_d8 {bs : List Nat} (h : Byt bs) (h8 : 8 ≤ bs.length) : e8 (d8 (bs.take 8)) = bs.take 8 := by
  match bs, h8 with
  | b0 :: b1 :: b2 :: b3 :: b4 :: b5 :: b6 :: b7 :: r, _ =>
    have h4 := h b4 (by simp)
    have h5 := h b5 (by simp)
    have h6 := h b6 (by simp)
    have h7 := h b7 (by simp)
    simp [e8, im4, d8]
    omega
theorem byI_dI : ∀ (n : Nat) {bs : List Nat}, bs.length = 8 * n → Byt bs → byI (dI bs) = bs
  | 0, bs, h, _ => by
    have : bs = [] := List.eq_nil_of_length_eq_zero (by omega)
    subst this
    rfl
  | n + 1, bs, h, hb => by
    rw [dI_cons (by omega)]
    have e : byI (d8 (bs.take 8) :: dI (bs.drop 8)) = e8 (d8 (bs.take 8)) ++ byI (dI (bs.drop 8)) := by simp [byI]
    rw [e, e8_d8 hb (by omega), byI_dI n (by rw [List.length_drop]; omega) (fun x hx => hb x (List.mem_of_mem_drop hx)), List.take_append_drop]
theorem paE_byI {l : List In} (h : ∀ i ∈ l, i.ok) : paE (byI l) = if 128 < l.length then 11 else fe1 l := by
  unfold paE
  rw [byI_len, if_neg (by omega), dI_byI h]
  have : 8 * l.length / 8 = l.length := by omega
  rw [this]
theorem paE_one {i : In} (h : i.ok) : paE (byI [i]) = ck i := by
  rw [paE_byI (by simpa using h)]
  simp only [List.length_cons, List.length_nil, fe1]
  rw [if_neg (by omega)]
  split
  · rename_i e; exact e.symm
  · rfl
theorem paL_one {i : In} (h : i.ok) : paL (byI [i]) = if ck i = 0 then [i] else [] := by
  unfold paL
  rw [paE_one h, dI_byI (by simpa using h)]
theorem tx_ne {i : In} (hi : i.ok) (h : ck i = 0) : tx i ≠ [] := by
  intro e
  have := rd_tx hi h
  rw [e] at this
  have h2 : rd [] = none := by
    unfold rd
    have : look [] = none := by decide +kernel
    simp [sp, this]
  rw [h2] at this
  cases this
theorem paL_all {bs : List Nat} : ∀ i ∈ paL bs, ck i = 0 := by
  unfold paL
  split
  · rename_i h
    unfold paE at h
    split at h
    · cases h
    · split at h
      · cases h
      · exact fe1_all h
  · intro i hi; cases hi
theorem paL_back {bs : List Nat} (hb : Byt bs) (h : paE bs = 0) : byI (paL bs) = bs := by
  unfold paL
  rw [if_pos h]
  unfold paE at h
  split at h
  · cases h
  · rename_i h8
    exact byI_dI (bs.length / 8) (by omega) hb
theorem paL_ok {bs : List Nat} (hb : Byt bs) : ∀ i ∈ paL bs, i.ok := by
  unfold paL
  split
  · exact dI_ok hb
  · intro i hi; cases hi
end Go.Proofs.YtcedjjolikmbbaaDoor
