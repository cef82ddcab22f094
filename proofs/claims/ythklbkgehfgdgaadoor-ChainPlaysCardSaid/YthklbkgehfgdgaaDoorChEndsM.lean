/- What ChainEnds and ChainMoves make of the lists in the mind. No condition. -/
import Derived.Test.YthklbkgehfgdgaaDoorChShown
namespace Go.Proofs.YthklbkgehfgdgaaDoor

def sq (k : Nat) : List Nat := (List.range k).map ndN
theorem sq_len (k : Nat) : (sq k).length = k := by simp [sq]
theorem sq_at {k j : Nat} (h : j < k) : (sq k)[j]? = some (ndN j) := by simp [sq, h]
theorem sq_snoc (k : Nat) : sq (k + 1) = sq k ++ [ndN k] := by simp [sq, List.range_succ]
theorem sq_mem {k x : Nat} (h : x ∈ sq k) : ∃ j, j < k ∧ x = ndN j := by
  simp [sq] at h
  obtain ⟨j, h1, h2⟩ := h
  exact ⟨j, h1, h2.symm⟩
theorem ndN_of {j : Nat} (h : j < 14) : ndN j = 32 + 16 * j := by unfold ndN; omega
theorem sq_not {k : Nat} (h : k < 14) : ndN k ∉ sq k := by
  intro hm
  obtain ⟨j, h1, h2⟩ := sq_mem hm
  rw [ndN_of h, ndN_of (by omega)] at h2
  omega
theorem sq_nod : ∀ {k : Nat}, k ≤ 14 → (sq k).Nodup
  | 0, _ => by simp [sq]
  | k + 1, h => by
    rw [sq_snoc]
    refine List.nodup_append.2 ⟨sq_nod (by omega), by simp, ?_⟩
    intro a ha b hb
    simp at hb
    subst hb
    rintro rfl
    exact sq_not (by omega) ha
theorem upL_twice (L : Nat → List Nat) (h : Nat) (a b : List Nat) : upL (upL L h a) h b = upL L h b := by
  funext k
  unfold upL
  split <;> rfl
theorem ow_E {l : List Nat} {x : Nat} (h : x ∉ l) : ow (upL E0 8 l) x = 0 := by
  simp [ow, upL, h, E0]
/-- So many pushed at an end. -/
def EL (d : Bool) (k : Nat) : Nat → List Nat := upL E0 8 (dl (!d) (sq k))
theorem EL_zero (d : Bool) : EL d 0 = E0 := by
  funext k
  unfold EL upL E0
  split
  · cases d <;> simp [sq, dl]
  · rfl
theorem EL_push (d : Bool) {k : Nat} (h : k < 14) : gP (EL d k) 8 (ndN k) d = EL d (k + 1) ∧ gPe (EL d k) (ndN k) = 0 := by
  have h0 : ow (EL d k) (ndN k) = 0 := ow_E (fun hm => sq_not h (dl_mem.1 hm))
  unfold gP gPe
  rw [if_pos h0, if_pos h0]
  refine ⟨?_, rfl⟩
  unfold EL
  rw [upL_twice, upL_same, sq_snoc]
  congr 1
  cases d <;> simp [dl, pushL]
/-- In which order they come out. -/
def QQ (d1 d2 : Bool) (m : Nat) : List Nat := if d1 == d2 then (sq m).reverse else sq m
theorem QQ_len (d1 d2 : Bool) (m : Nat) : (QQ d1 d2 m).length = m := by unfold QQ; split <;> simp [sq_len]
theorem QQ_nod {d1 d2 : Bool} {m : Nat} (h : m ≤ 14) : (QQ d1 d2 m).Nodup := by
  unfold QQ
  split
  · have := dl_nod (d := false) (sq_nod h)
    simpa [dl] using this
  · exact sq_nod h
theorem QQ_at {d1 d2 : Bool} {m j : Nat} (h : j < m) : (QQ d1 d2 m)[j]? = some (if d1 == d2 then ndN (m - 1 - j) else ndN j) := by
  unfold QQ
  split
  · rw [List.getElem?_reverse (by rw [sq_len]; exact h), sq_len, sq_at (by omega)]
  · exact sq_at h
/-- So many popped at an end. -/
def EO (d1 d2 : Bool) (m j : Nat) : Nat → List Nat := upL E0 8 (dl d2 ((QQ d1 d2 m).drop j))
theorem EO_zero (d1 d2 : Bool) (m : Nat) : EO d1 d2 m 0 = EL d1 m := by
  unfold EO EL QQ
  rw [List.drop_zero]
  cases d1 <;> cases d2 <;> simp [dl]
theorem EO_end (d1 d2 : Bool) (m : Nat) : EO d1 d2 m m = E0 := by
  funext k
  have : (QQ d1 d2 m).drop m = [] := List.drop_eq_nil_of_le (by rw [QQ_len]; exact Nat.le_refl _)
  unfold EO upL E0
  rw [this]
  split
  · cases d2 <;> simp [dl]
  · rfl
theorem dl_dl (d : Bool) (l : List Nat) : dl d (dl d l) = l := by cases d <;> simp [dl]
theorem dl_erase (d : Bool) {y : Nat} {l : List Nat} (h : y ∉ l) : (dl d (y :: l)).erase y = dl d l := by
  cases d
  · simp only [dl, Bool.false_eq_true, if_false, List.reverse_cons]
    rw [List.erase_append_right _ (by simpa using h)]
    simp
  · simp [dl]
theorem EO_pop (d1 d2 : Bool) {m j : Nat} (hm : m ≤ 14) (h : j < m) : en (EO d1 d2 m j) 8 d2 = (if d1 == d2 then ndN (m - 1 - j) else ndN j) ∧
    gO (EO d1 d2 m j) 8 d2 = EO d1 d2 m (j + 1) ∧ gOe (EO d1 d2 m j) 8 d2 = 0 := by
  obtain ⟨y, hy⟩ : ∃ y, y = (if d1 == d2 then ndN (m - 1 - j) else ndN j) := ⟨_, rfl⟩
  have hat := QQ_at (d1 := d1) (d2 := d2) h
  rw [← hy] at hat ⊢
  obtain ⟨hj, hat'⟩ := List.getElem?_eq_some_iff.1 hat
  have hd : (QQ d1 d2 m).drop j = y :: (QQ d1 d2 m).drop (j + 1) := by rw [List.drop_eq_getElem_cons hj, hat']
  have hno : y ∉ (QQ d1 d2 m).drop (j + 1) := by
    have hn : ((QQ d1 d2 m).drop j).Nodup := (QQ_nod hm).sublist (List.drop_sublist _ _)
    rw [hd] at hn
    exact (List.nodup_cons.1 hn).1
  have e8 : EO d1 d2 m j 8 = dl d2 (y :: (QQ d1 d2 m).drop (j + 1)) := by unfold EO; rw [upL_same, hd]
  have he : en (EO d1 d2 m j) 8 d2 = y := by unfold en; rw [e8, dl_dl]; rfl
  have hy0 : y ≠ 0 := by
    rw [hy]
    split <;> (unfold ndN; omega)
  refine ⟨he, ?_, ?_⟩
  · unfold gO
    rw [he, if_neg hy0, e8, dl_erase d2 hno]
    unfold EO
    rw [upL_twice]
  · unfold gOe
    rw [he, if_neg hy0]
/-- Empty lists: all bytes are 0. -/
theorem Cs.zero {w0 w : World} {p g : Nat} {f : Nat → Int} (c : Cs w0 w p g E0 f) (k : Nat) (_hk : k < 512) : f k = 0 := by
  have hb := c.aw.ar.byte
  by_cases h1 : 8 ≤ k ∧ k < 32
  · have hh : 8 * (k / 8) ∈ H3 := by
      have : k / 8 = 1 ∨ k / 8 = 2 ∨ k / 8 = 3 := by omega
      rcases this with e | e | e <;> rw [e] <;> decide
    have a := c.ch.first hh true
    have b := c.ch.first hh false
    have ea : lk f (8 * (k / 8)) = 0 := by simpa [E0, dl, off] using a
    have eb : lk f (8 * (k / 8) + 4) = 0 := by simpa [E0, dl, off] using b
    obtain ⟨a0, a1, a2, a3⟩ := lk_zero hb ea
    obtain ⟨b0, b1, b2, b3⟩ := lk_zero hb eb
    obtain ⟨h, hhd⟩ : ∃ h, h = 8 * (k / 8) := ⟨_, rfl⟩
    rw [← hhd] at a0 a1 a2 a3 b0 b1 b2 b3
    have : k = h ∨ k = h + 1 ∨ k = h + 2 ∨ k = h + 3 ∨ k = h + 4 ∨ k = h + 4 + 1 ∨ k = h + 4 + 2 ∨ k = h + 4 + 3 := by omega
    rcases this with e | e | e | e | e | e | e | e <;> rw [e] <;> assumption
  · by_cases h2 : 32 ≤ k ∧ k < 256
    · have hx : N14 (32 + 16 * ((k - 32) / 16)) := ⟨(k - 32) / 16, by omega, rfl⟩
      obtain ⟨x, hxd⟩ : ∃ x, x = 32 + 16 * ((k - 32) / 16) := ⟨_, rfl⟩
      rw [← hxd] at hx
      have fr := c.ch.free x hx (fun h _ hm => by cases hm)
      have ea : lk f x = 0 := fr.1 true
      have eb : lk f (x + 4) = 0 := fr.1 false
      obtain ⟨a0, a1, a2, a3⟩ := lk_zero hb ea
      obtain ⟨b0, b1, b2, b3⟩ := lk_zero hb eb
      obtain ⟨c0, c1, c2, c3⟩ := lk_zero hb fr.2
      obtain ⟨d0, d1, d2, d3⟩ := lk_zero hb (c.ch.pad x hx)
      have : k = x ∨ k = x + 1 ∨ k = x + 2 ∨ k = x + 3 ∨ k = x + 4 ∨ k = x + 4 + 1 ∨ k = x + 4 + 2 ∨ k = x + 4 + 3 ∨ k = x + 8 ∨ k = x + 8 + 1 ∨ k = x + 8 + 2 ∨ k = x + 8 + 3 ∨ k = x + 12 ∨ k = x + 12 + 1 ∨ k = x + 12 + 2 ∨ k = x + 12 + 3 := by omega
      rcases this with e | e | e | e | e | e | e | e | e | e | e | e | e | e | e | e <;> rw [e] <;> assumption
    · refine c.rest k (fun h hh => ?_) (fun x ⟨j, h3, h4⟩ => by omega)
      rcases h3_cases hh with rfl | rfl | rfl <;> omega
end Go.Proofs.YthklbkgehfgdgaaDoor
