/- Taking a block, giving one, assigning a page: what they make of a slab's state. No condition. -/
import Derived.Test.YthblpnnbkjhmhaaDoorSGhost
namespace Go.Proofs.YthblpnnbkjhmhaaDoor
open Go.RowKit
open Pool (num cnt upd Pl low setR num_testBit)

section
variable {n i c a j : Nat} {s : St} {l : List Nat} {f : Nat → Int}

theorem nodup_head {a : Nat} {l : List Nat} (h : (a :: l).Nodup) : a ∉ l := (List.nodup_cons.1 h).1

/-! ### Taking -/
theorem popG_at (hs : s i = (c, a :: l)) : popG s i i = (c, l) := by unfold popG; rw [put_same, hs]; rfl
theorem popG_other {k : Nat} (h : k ≠ i) : popG s i k = s k := put_other _ _ h
theorem tk_pop (hI : Inv0 n s) (hs : s i = (c, a :: l)) (hj : j < 512 / c) (ha : a = blk i c j) (hC : IsC c) : tk (popG s i) i = upd (tk s i) j true := by
  have hn : a ∉ l := nodup_head (by have := hI.once i; rw [hs] at this; exact this)
  funext k
  unfold tk
  rw [popG_at hs, hs]
  dsimp only
  by_cases e : k = j
  · subst e
    rw [upd_same, ← ha]
    simp [hj, hn]
  · rw [upd_other _ _ e]
    have : blk i c k ≠ a := by rw [ha]; exact fun h => e (blk_inj hC h)
    simp [this]
theorem raw_pop (hI : Inv0 n s) (hs : s i = (c, a :: l)) (ha : a ∈ blks i c) (hC : IsC c) : rput (rawOf s) i (c, num (tk s i) 32 ||| bt (a % 512 / c), head0 l) = rawOf (popG s i) := by
  obtain ⟨j, hj, e⟩ := mem_blks.1 ha
  have hj32 : j < 32 := by have := hC.many; omega
  funext k
  by_cases hk : k = i
  · subst hk
    have e1 : a % 512 / c = j := by rw [e]; exact blk_idx hC hj
    rw [rput_same, e1, num_or32 _ _ hj32, ← tk_pop hI hs hj e hC]
    unfold rawOf
    rw [popG_at hs]
  · rw [rput_other _ _ hk]
    unfold rawOf tk
    rw [popG_other hk]
theorem tkp_pop (hs : s i = (c, a :: l)) : tkp (popG s i) n = tkp s n := by
  funext k
  unfold tkp
  by_cases hk : k = i
  · subst hk; rw [popG_at hs, hs]
  · rw [popG_other hk]
theorem inv0_pop (hI : Inv0 n s) (hs : s i = (c, a :: l)) : Inv0 n (popG s i) := by
  have h1 : ∀ k, (popG s i k).1 = (s k).1 := by
    intro k
    by_cases hk : k = i
    · subst hk; rw [popG_at hs, hs]
    · rw [popG_other hk]
  have h2 : ∀ k, ∀ b, b ∈ (popG s i k).2 → b ∈ (s k).2 := by
    intro k b hb
    by_cases hk : k = i
    · subst hk; rw [popG_at hs] at hb; rw [hs]; exact List.mem_cons_of_mem _ hb
    · rwa [popG_other hk] at hb
  refine ⟨by rw [h1]; exact hI.page0, fun k hk => by rw [h1]; exact hI.off k hk, fun k => by rw [h1]; exact hI.cls k, fun k hk => ?_, fun k b hb => by rw [h1]; exact hI.free k b (h2 k b hb), fun k => ?_⟩
  · rw [h1] at hk
    have := hI.none k hk
    by_cases e : k = i
    · subst e; rw [hs] at this; cases this
    · rw [popG_other e]; exact this
  · by_cases e : k = i
    · subst e
      rw [popG_at hs]
      have := hI.once k
      rw [hs] at this
      exact (List.nodup_cons.1 this).2
    · rw [popG_other e]; exact hI.once k
theorem inv_pop (hI : Inv0 n s) (hs : s i = (c, a :: l)) (ha : a ∈ blks i c) (ho : ∀ k, k ≠ i → (s k).1 ≠ 0 → ∃ b, b ∈ blks k (s k).1 ∧ b ∉ (s k).2) : Inv n (popG s i) := by
  refine ⟨inv0_pop hI hs, fun k hk => ?_⟩
  by_cases e : k = i
  · subst e
    rw [popG_at hs]
    exact ⟨a, ha, nodup_head (by have := hI.once k; rw [hs] at this; exact this)⟩
  · rw [popG_other e] at hk ⊢
    exact ho k e hk
/-- Where the links lead when a block is taken. -/
theorem fw_pop (hI : Inv0 n s) (hs : s i = (c, a :: l)) (hC : IsC c) {r : Nat} (h : Fw i c (num (tk (popG s i) i) 32) (head0 l) r) : r = head0 l := by
  have hbit : ∀ b ∈ blks i c, (num (tk (popG s i) i) 32).testBit (b % 512 / c) = !decide (b ∈ l) := by
    intro b hb
    obtain ⟨j, hj, e⟩ := mem_blks.1 hb
    have hj32 : j < 32 := by have := hC.many; omega
    have e1 : b % 512 / c = j := by rw [e]; exact blk_idx hC hj
    rw [e1, num_testBit]
    unfold tk
    rw [popG_at hs]
    simp [hj, hj32, ← e]
  cases l with
  | nil => exact h.1 fun b hb => by rw [hbit b hb]; simp
  | cons b l =>
    have hb : b ∈ blks i c := by have := hI.free i b (by rw [hs]; simp); rwa [hs] at this
    exact h.2.1 hb (by rw [head0_cons, hbit b hb]; simp)
/-- The bytes of a block that is free. -/
theorem lnk_fill (hI : Inv0 n s) (hs : s i = (c, a :: l)) (ha : a ∈ blks i c) (v : Int) (hL : ∀ k, Link f (s k).2) : ∀ k, Link (fl f a v c) (popG s i k).2 := by
  have key : ∀ k b, b ∈ blks k (s k).1 → b ≠ a → ∀ x, b ≤ x → x < b + 8 → f x = fl f a v c x := by
    intro k b hb hne x h1 h2
    have hf := far hI (a := a) (i := i) (by rw [hs]; exact ha) hb (fun e => hne e.symm)
    have hC := (isC_of hI hb).bd
    rw [hs] at hf
    unfold fl
    rw [if_neg (by omega)]
  have hn : a ∉ l := nodup_head (by have := hI.once i; rw [hs] at this; exact this)
  intro k
  by_cases e : k = i
  · subst e
    rw [popG_at hs]
    have h := hL k
    rw [hs] at h
    refine h.2.congr fun b hb => key k b ?_ ?_
    · exact hI.free k b (by rw [hs]; exact List.mem_cons_of_mem _ hb)
    · rintro rfl; exact hn hb
  · rw [popG_other e]
    refine (hL k).congr fun b hb => key k b (hI.free k b hb) ?_
    rintro rfl
    have h1 := mem_le (isC_of hI (hI.free k b hb)) (hI.free k b hb)
    have hC : IsC c := by have := isC_of hI (i := i) (a := b) (by rw [hs]; exact ha); rwa [hs] at this
    have h2 := mem_le hC ha
    have := hC.bd
    have := (isC_of hI (hI.free k b hb)).bd
    omega

/-! ### A new page -/
theorem asg_at : asg s i c i = (c, blks i c) := put_same _ _ _
theorem asg_other {k : Nat} (h : k ≠ i) : asg s i c k = s k := put_other _ _ h
theorem blks_once (i : Nat) (hC : IsC c) : (blks i c).Nodup := by
  unfold blks
  rw [List.nodup_iff_pairwise_ne, List.pairwise_map]
  exact (List.nodup_range (n := 512 / c)).imp fun h e => h (blk_inj hC e)
theorem blks_cons (i : Nat) (hC : IsC c) : ∃ l, blks i c = 512 * i :: l := by
  have := hC.many
  unfold blks
  obtain ⟨m, hm⟩ : ∃ m, 512 / c = m + 1 := ⟨512 / c - 1, by omega⟩
  rw [hm, List.range_succ_eq_map, List.map_cons]
  exact ⟨_, by congr 1; simp [blk]⟩
theorem inv0_asg (hI : Inv0 n s) (hi : i ≠ 0) (hin : i < n) (hC : IsC c) : Inv0 n (asg s i c) := by
  refine ⟨by rw [asg_other (fun e => hi e.symm)]; exact hI.page0, fun k hk => ?_, fun k => ?_, fun k hk => ?_, fun k b hb => ?_, fun k => ?_⟩
  · rw [asg_other (by omega)]; exact hI.off k hk
  all_goals by_cases e : k = i
  · subst e; rw [asg_at]; exact .inr hC
  · rw [asg_other e]; exact hI.cls k
  · subst e; rw [asg_at] at hk; have := hC.bd; dsimp only at hk; omega
  · rw [asg_other e] at hk ⊢; exact hI.none k hk
  · subst e; rw [asg_at] at hb ⊢; exact hb
  · rw [asg_other e] at hb ⊢; exact hI.free k b hb
  · subst e; rw [asg_at]; exact blks_once k hC
  · rw [asg_other e]; exact hI.once k
theorem tkp_asg (hin : i < n) (hC : IsC c) : setR (tkp s n) i 1 true = tkp (asg s i c) n := by
  have hb := hC.bd
  funext k
  unfold setR tkp
  by_cases e : k = i
  · subst e
    rw [asg_at]
    have : ¬ c = 0 := by omega
    simp [hin, this]
  · rw [asg_other e, if_neg (by omega)]
theorem raw_asg (h0 : (s i).1 = 0) (hC : IsC c) {x : Nat} (hx : x = 512 * i) : rput (rawOf s) i (c, (rawOf s i).2.1, x) = rawOf (asg s i c) := by
  obtain ⟨l, hl⟩ := blks_cons i hC
  have hm := hC.many
  funext k
  by_cases e : k = i
  · subst e
    rw [rput_same]
    unfold rawOf
    rw [asg_at]
    dsimp only
    rw [hl, head0_cons, hx]
    have h1 : num (tk s k) 32 = 0 := num_zero32 fun j _ => by unfold tk; rw [h0]; simp
    have h2 : num (tk (asg s k c) k) 32 = 0 := num_zero32 fun j _ => by
      unfold tk
      rw [asg_at]
      by_cases hj : j < 512 / c
      · simp [mem_blks.2 ⟨j, hj, rfl⟩]
      · simp [hj]
    rw [h1, h2]
  · rw [rput_other _ _ e]
    unfold rawOf tk
    rw [asg_other e]
/-- Pushing blocks that are apart: they are linked. -/
theorem pushS_link (f : Nat → Int) : ∀ (l : List Nat), l.Pairwise (fun a b => a + 8 ≤ b ∨ b + 8 ≤ a) → (∀ b ∈ l, b ≤ 65536) → (pushS f 0 l.reverse).2 = head0 l ∧ Link (pushS f 0 l.reverse).1 l
  | [], _, _ => ⟨rfl, trivial⟩
  | a :: l, hp, hb => by
    obtain ⟨h1, h2⟩ := pushS_link f l (List.pairwise_cons.1 hp).2 fun b hm => hb b (by simp [hm])
    rw [List.reverse_cons, pushS_snoc, h1]
    have hle : head0 l ≤ 65536 := by
      cases l with
      | nil => simp [head0]
      | cons b l => exact hb b (by simp)
    refine ⟨rfl, ?_, h2.congr fun b hm k k1 k2 => ?_⟩
    · rw [ld_st _ _ _ 8 8 (Nat.le_refl _)]
      omega
    · have := (List.pairwise_cons.1 hp).1 b hm
      show _ = st _ a _ 8 k
      unfold st
      rw [if_neg (by omega)]
theorem pushS_other (f : Nat → Int) (x k : Nat) : ∀ (l : List Nat), (∀ b ∈ l, k < b ∨ b + 8 ≤ k) → (pushS f x l.reverse).1 k = f k
  | [], _ => rfl
  | a :: l, h => by
    rw [List.reverse_cons, pushS_snoc]
    have := h a (by simp)
    show st _ a _ 8 k = f k
    unfold st
    rw [if_neg (by omega)]
    exact pushS_other f x k l fun b hb => h b (by simp [hb])
theorem blks_apart (i : Nat) (hC : IsC c) : (blks i c).Pairwise (fun a b => a + 8 ≤ b ∨ b + 8 ≤ a) := by
  have hb := hC.bd
  unfold blks
  rw [List.pairwise_map]
  refine (List.pairwise_lt_range (n := 512 / c)).imp fun {a b} h => .inl ?_
  unfold blk
  have := Nat.mul_le_mul_right c h
  rw [Nat.succ_mul] at this
  omega
theorem lnk_asg (hI : Inv0 n s) (hi : i < 128) (hC : IsC c) (hL : ∀ k, Link f (s k).2) : ∀ k, Link (pushS f 0 (blks i c).reverse).1 (asg s i c k).2 := by
  intro k
  by_cases e : k = i
  · subst e
    rw [asg_at]
    exact (pushS_link f _ (blks_apart k hC) fun b hb => by have := mem_le hC hb; omega).2
  · rw [asg_other e]
    refine (hL k).congr fun b hb x h1 h2 => (pushS_other f 0 x _ fun d hd => ?_).symm
    have h3 := mem_le (isC_of hI (hI.free k b hb)) (hI.free k b hb)
    have h4 := mem_le hC hd
    have := hC.bd
    have := (isC_of hI (hI.free k b hb)).bd
    omega
theorem new_spec (h : pgNew n s = some i) : i < n ∧ i ≠ 0 ∧ (s i).1 = 0 := by
  unfold pgNew at h
  rw [List.find?_range_eq_some] at h
  obtain ⟨h1, h2, _⟩ := h
  simp at h1 h2
  exact ⟨h2, h1.1, h1.2⟩
end
end Go.Proofs.YthblpnnbkjhmhaaDoor
