/- A leaf's bytes cleared; what stays of other bytes. No condition on the program. -/
import Derived.Test.YtiacclmapicmdaaDoorTrMem
namespace Go.Proofs.YtiacclmapicmdaaDoor

theorem lk_clr (f : Nat → Int) (a b : Nat) (h : (a ≤ b ∧ b + 4 ≤ a + 24) ∨ a + 24 ≤ b ∨ b + 4 ≤ a) : lk (fl f a 0 24) b = if a ≤ b ∧ b < a + 24 then 0 else lk f b := by
  by_cases e : a ≤ b ∧ b < a + 24
  · rw [if_pos e]
    refine lk_of_zero fun i h1 h2 => ?_
    unfold fl
    rw [if_pos (by omega)]
  · rw [if_neg e]
    unfold lk
    refine ld_congr b 4 fun i h1 h2 => ?_
    unfold fl
    rw [if_neg (by omega)]
section
variable {n rt : Nat} {ad : Nat → Nat} {N : Nat → Prop} {s : Tr} {I : Nat → Bool} {f : Nat → Int}
/-- All 24 bytes of a leaf are 0. -/
theorem Tm.clr (m : Tm n ad rt N s I f) {k : Nat} (hk : N k) : Tm n ad rt N (s.clr k) (fun j => if j = k then false else I j) (fl f (ad k) 0 24) := by
  have hch : ∀ j e, (s.clr k).ch j e = if j = k then 0 else s.ch j e := fun j e => by
    unfold Tr.clr Tr.ch
    by_cases hj : j = k
    · subst hj; cases e <;> simp
    · simp [hj]
  have hpar : ∀ j, (s.clr k).par j = if j = k then 0 else s.par j := fun j => by
    unfold Tr.clr Tr.par
    by_cases hj : j = k
    · subst hj; simp
    · simp [hj]
  have hred : ∀ j, (s.clr k).red j = if j = k then false else s.red j := fun j => by
    unfold Tr.clr Tr.red
    by_cases hj : j = k
    · subst hj; simp
    · simp [hj]
  refine ⟨m.pl, fun j hj i hi => ?_, ?_, m.topN, fun j hj => ⟨fun e => ?_, ?_⟩⟩
  · by_cases e : j = k
    · subst e
      rw [lk_clr _ _ _ (by omega), if_pos (by omega)]
      match i, hi with
      | 0, _ => simp [wd, hch, m.pl.ad0]
      | 1, _ => simp [wd, hch, m.pl.ad0]
      | 2, _ => simp [wd, hpar, m.pl.ad0]
      | 3, _ => simp [wd]
      | 4, _ => simp [wd, hred]
    · have := m.pl.apart j k hj hk e
      rw [lk_clr _ _ _ (by omega), if_neg (by omega), m.wds j hj i hi]
      match i, hi with
      | 0, _ => simp [wd, hch, e]
      | 1, _ => simp [wd, hch, e]
      | 2, _ => simp [wd, hpar, e]
      | 3, _ => simp [wd, e]
      | 4, _ => simp [wd, hred, e]
  · have := m.pl.rapart k hk
    rw [lk_clr _ _ _ (by omega), if_neg (by omega)]
    exact m.top
  · rw [hch]
    split
    · exact .inl rfl
    · exact (m.lkN j hj).1 e
  · rw [hpar]
    split
    · exact .inl rfl
    · exact (m.lkN j hj).2
/-- Only words of leaves and the root's are turned, or a leaf's unused bytes to 0. -/
def KeepT (rt : Nat) (ad : Nat → Nat) (N : Nat → Prop) (f f' : Nat → Int) : Prop :=
  ∀ k, f' k = f k ∨ (rt ≤ k ∧ k < rt + 4) ∨ ∃ j, N j ∧ ad j ≤ k ∧ (k < ad j + 20 ∨ (k < ad j + 24 ∧ f' k = 0))
theorem KeepT.refl (f : Nat → Int) : KeepT rt ad N f f := fun _ => .inl rfl
theorem KeepT.trans {f g h : Nat → Int} (a : KeepT rt ad N f g) (b : KeepT rt ad N g h) : KeepT rt ad N f h := fun k => by
  rcases b k with e | e | e
  · rcases a k with e2 | e2 | ⟨j, h1, h2, h3⟩
    · exact .inl (e.trans e2)
    · exact .inr (.inl e2)
    · exact .inr (.inr ⟨j, h1, h2, h3.imp id fun h => ⟨h.1, e.trans h.2⟩⟩)
  · exact .inr (.inl e)
  · exact .inr (.inr e)
theorem keepT_word {p o : Nat} (hp : N p) (ho : o ≤ 16) (v : Int) (f : Nat → Int) : KeepT rt ad N f (st f (ad p + o) v 4) := fun k => by
  by_cases h : ad p + o ≤ k ∧ k < ad p + o + 4
  · exact .inr (.inr ⟨p, hp, by omega, .inl (by omega)⟩)
  · exact .inl (by unfold st; rw [if_neg h])
theorem keepT_top (v : Int) (f : Nat → Int) : KeepT rt ad N f (st f rt v 4) := fun k => by
  by_cases h : rt ≤ k ∧ k < rt + 4
  · exact .inr (.inl h)
  · exact .inl (by unfold st; rw [if_neg h])
theorem keepT_clr {p : Nat} (hp : N p) (f : Nat → Int) : KeepT rt ad N f (fl f (ad p) 0 24) := fun k => by
  by_cases h : ad p ≤ k ∧ k < ad p + 24
  · exact .inr (.inr ⟨p, hp, h.1, .inr ⟨h.2, by unfold fl; rw [if_pos h]⟩⟩)
  · exact .inl (by unfold fl; rw [if_neg h])
/-- Bytes that were 0 everywhere but in leaves' and the root's words, and these words 0: all are 0. -/
theorem keepT_zero {f0 f' : Nat → Int} (h : KeepT rt ad N f0 f') (hz : ∀ k, f0 k = 0) (hb : Bytes f') (ht : lk f' rt = 0) (hw : ∀ j, N j → ∀ i, i < 5 → lk f' (ad j + 4 * i) = 0) (k : Nat) : f' k = 0 := by
  rcases h k with e | ⟨h1, h2⟩ | ⟨j, hj, h1, h2⟩
  · rw [e, hz]
  · obtain ⟨a, b, c, d⟩ := lk_zero hb ht
    have : k = rt ∨ k = rt + 1 ∨ k = rt + 2 ∨ k = rt + 3 := by omega
    rcases this with rfl | rfl | rfl | rfl <;> assumption
  · rcases h2 with h2 | h2
    · have := hw j hj ((k - ad j) / 4) (by omega)
      obtain ⟨a, b, c, d⟩ := lk_zero hb this
      have : k = ad j + 4 * ((k - ad j) / 4) ∨ k = ad j + 4 * ((k - ad j) / 4) + 1 ∨ k = ad j + 4 * ((k - ad j) / 4) + 2 ∨ k = ad j + 4 * ((k - ad j) / 4) + 3 := by omega
      rcases this with e | e | e | e <;> rw [e] <;> assumption
    · exact h2.2
end
end Go.Proofs.YtiacclmapicmdaaDoor
