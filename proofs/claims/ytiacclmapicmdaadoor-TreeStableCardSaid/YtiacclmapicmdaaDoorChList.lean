/- Plain reasoning on lists: what stands behind a place in a list, when the list grows at its ends or loses a place. No condition. -/
import Derived.WalkKit
namespace Go.Proofs.YtiacclmapicmdaaDoor

/-- What stands behind x in a list; 0: nothing, or x isn't there. -/
def nxt : List Nat → Nat → Nat
  | [], _ => 0
  | a :: l, x => if a = x then l.headD 0 else nxt l x
/-- The one that is linked where there is no neighbor: the head. -/
def oh (nb h : Nat) : Nat := if nb = 0 then h else nb
/-- The last one of a list behind its head. -/
def lst (h : Nat) (a : List Nat) : Nat := oh (a.reverse.headD 0) h
/-- A list, from the front or from the back. -/
def dl (d : Bool) (l : List Nat) : List Nat := if d then l else l.reverse
/-- Where a link lies that leads so. -/
def off (d : Bool) : Nat := if d then 0 else 4
/-- A list with a place more at an end. -/
def pushL (d : Bool) (x : Nat) (l : List Nat) : List Nat := if d then x :: l else l ++ [x]

theorem nxt_nil (x : Nat) : nxt [] x = 0 := rfl
theorem nxt_here (a : Nat) (l : List Nat) : nxt (a :: l) a = l.headD 0 := by simp [nxt]
theorem nxt_there {a x : Nat} (l : List Nat) (h : a ≠ x) : nxt (a :: l) x = nxt l x := by simp [nxt, h]
theorem nxt_out : ∀ {l : List Nat} {x : Nat}, x ∉ l → nxt l x = 0
  | [], _, _ => rfl
  | a :: l, x, h => by
    rw [nxt_there l (by rintro rfl; simp at h), nxt_out (by simp at h; exact h.2)]
theorem dl_mem {d : Bool} {l : List Nat} {x : Nat} : x ∈ dl d l ↔ x ∈ l := by cases d <;> simp [dl]
theorem dl_len (d : Bool) (l : List Nat) : (dl d l).length = l.length := by cases d <;> simp [dl]
theorem dl_nod {d : Bool} {l : List Nat} (h : l.Nodup) : (dl d l).Nodup := by
  cases d
  · show (dl false l).Nodup
    unfold dl List.Nodup
    simp only [Bool.false_eq_true, if_false]
    rw [List.pairwise_reverse]
    exact List.Pairwise.imp (fun h => Ne.symm h) h
  · simpa [dl] using h
theorem dl_push (d : Bool) (x : Nat) (l : List Nat) : dl d (pushL d x l) = x :: dl d l := by cases d <;> simp [dl, pushL]
theorem dl_push' (d : Bool) (x : Nat) (l : List Nat) : dl (!d) (pushL d x l) = dl (!d) l ++ [x] := by cases d <;> simp [dl, pushL]
theorem dl_rev (d : Bool) (l : List Nat) : dl (!d) l = (dl d l).reverse := by cases d <;> simp [dl]
theorem push_mem {d : Bool} {l : List Nat} {x y : Nat} : y ∈ pushL d x l ↔ y = x ∨ y ∈ l := by
  cases d
  · simp [pushL, or_comm]
  · simp [pushL]
theorem push_len (d : Bool) (x : Nat) (l : List Nat) : (pushL d x l).length = l.length + 1 := by cases d <;> simp [pushL]
theorem push_nod {d : Bool} {l : List Nat} {x : Nat} (h : l.Nodup) (hx : x ∉ l) : (pushL d x l).Nodup := by
  cases d
  · simp only [pushL]
    refine List.nodup_append.2 ⟨h, by simp, ?_⟩
    intro a ha b hb
    simp at hb
    rintro rfl
    subst hb
    exact hx ha
  · simp [pushL, h, hx]

theorem lst_nil (h : Nat) : lst h [] = h := rfl
theorem lst_cons {h c : Nat} {a : List Nat} (hc : c ≠ 0) (ha : 0 ∉ a) : lst h (c :: a) = lst c a := by
  unfold lst
  rw [List.reverse_cons]
  cases e : a.reverse with
  | nil => simp [oh, hc]
  | cons y ys =>
    have hy : y ≠ 0 := by
      rintro rfl
      have : (0 : Nat) ∈ a.reverse := by rw [e]; simp
      exact ha (List.mem_reverse.1 this)
    simp [oh, hy]
theorem lst_mem (h : Nat) (a : List Nat) : lst h a ∈ h :: a := by
  unfold lst oh
  split
  · simp
  · rename_i hn
    cases e : a.reverse with
    | nil => rw [e] at hn; exact absurd rfl hn
    | cons y ys =>
      have : y ∈ a.reverse := by rw [e]; simp
      simp [List.mem_reverse.1 this]
theorem zero_tail {c : Nat} {a : List Nat} (h : 0 ∉ c :: a) : c ≠ 0 ∧ 0 ∉ a := by
  simp at h
  exact ⟨fun e => h.1 e.symm, h.2⟩
theorem nxt_cut : ∀ {h : Nat} {a b : List Nat} {x p : Nat}, (h :: (a ++ x :: b)).Nodup → 0 ∉ a → p ≠ x →
    nxt (h :: (a ++ b)) p = if p = lst h a then b.headD 0 else nxt (h :: (a ++ x :: b)) p
  | h, [], b, x, p, hn, _, hp => by
    rw [lst_nil]
    by_cases e : p = h
    · subst e; rw [if_pos rfl]; simp [nxt]
    · rw [if_neg e]
      simp only [List.nil_append]
      rw [nxt_there _ (Ne.symm e), nxt_there _ (Ne.symm e), nxt_there _ (Ne.symm hp)]
  | h, c :: a, b, x, p, hn, h0, hp => by
    obtain ⟨hc, ha⟩ := zero_tail h0
    have hn' : (c :: (a ++ x :: b)).Nodup := (List.nodup_cons.1 hn).2
    have hh := (List.nodup_cons.1 hn).1
    rw [lst_cons hc ha]
    by_cases e : p = h
    · subst e
      have : p ≠ lst c a := by
        intro e
        have := lst_mem c a
        rw [← e] at this
        exact hh (by simp only [List.cons_append, List.mem_cons, List.mem_append] at this ⊢; rcases this with h | h <;> simp [h])
      rw [if_neg this]
      simp [nxt]
    · simp only [List.cons_append]
      rw [nxt_there _ (Ne.symm e), nxt_there _ (Ne.symm e)]
      exact nxt_cut hn' ha hp
theorem nxt_last : ∀ {h : Nat} {a b : List Nat} {x : Nat}, (h :: (a ++ x :: b)).Nodup → 0 ∉ a → nxt (h :: (a ++ x :: b)) (lst h a) = x
  | h, [], b, x, _, _ => by rw [lst_nil]; simp [nxt]
  | h, c :: a, b, x, hn, h0 => by
    obtain ⟨hc, ha⟩ := zero_tail h0
    have hn' : (c :: (a ++ x :: b)).Nodup := (List.nodup_cons.1 hn).2
    have hh := (List.nodup_cons.1 hn).1
    rw [lst_cons hc ha]
    have : h ≠ lst c a := by
      intro e
      have := lst_mem c a
      rw [← e] at this
      exact hh (by simp only [List.cons_append, List.mem_cons, List.mem_append] at this ⊢; rcases this with h | h <;> simp [h])
    simp only [List.cons_append]
    rw [nxt_there _ this]
    exact nxt_last hn' ha
theorem nxt_mid : ∀ {a b : List Nat} {x : Nat}, x ∉ a → nxt (a ++ x :: b) x = b.headD 0
  | [], b, x, _ => by simp [nxt]
  | c :: a, b, x, h => by
    simp at h
    simp only [List.cons_append]
    rw [nxt_there _ (Ne.symm h.1), nxt_mid h.2]
theorem nxt_snoc {h : Nat} {a : List Nat} {x p : Nat} (hn : (h :: (a ++ [x])).Nodup) (h0 : 0 ∉ a) :
    nxt (h :: (a ++ [x])) p = if p = x then 0 else if p = lst h a then x else nxt (h :: a) p := by
  by_cases e : p = x
  · subst e
    rw [if_pos rfl]
    have hx : p ∉ h :: a := by
      intro hm
      have : (h :: a ++ [p]).Nodup := by simpa using hn
      have := (List.nodup_append.1 this).2.2 p hm p (by simp)
      exact this rfl
    have := nxt_mid (a := h :: a) (b := []) hx
    simpa using this
  · rw [if_neg e]
    by_cases e2 : p = lst h a
    · rw [if_pos e2, e2, nxt_last hn h0]
    · rw [if_neg e2]
      have := nxt_cut hn h0 e
      rw [if_neg e2, List.append_nil] at this
      exact this.symm
/-- What stands behind the place k of a list. -/
theorem nxt_at : ∀ {l : List Nat} {k x : Nat}, l.Nodup → l[k]? = some x → nxt l x = (l[k + 1]?).getD 0
  | [], k, x, _, h => by simp at h
  | a :: l, 0, x, _, h => by
    have e : a = x := by simpa using h
    subst e
    rw [nxt_here]
    cases l <;> simp
  | a :: l, k + 1, x, hn, h => by
    have h' : l[k]? = some x := by simpa using h
    have hx : x ∈ l := List.mem_of_getElem? h'
    have : a ≠ x := by rintro rfl; exact (List.nodup_cons.1 hn).1 hx
    rw [nxt_there _ this, nxt_at (List.nodup_cons.1 hn).2 h']
    simp
theorem head_at (l : List Nat) : l.headD 0 = (l[0]?).getD 0 := by cases l <;> simp
theorem split_at {l : List Nat} {x : Nat} (h : x ∈ l) : ∃ a b, l = a ++ x :: b ∧ x ∉ a := by
  induction l with
  | nil => cases h
  | cons c l ih =>
    by_cases e : c = x
    · exact ⟨[], l, by simp [e], by simp⟩
    · rcases List.mem_cons.1 h with h | h
      · exact absurd h.symm e
      · obtain ⟨a, b, e1, e2⟩ := ih h
        exact ⟨c :: a, b, by simp [e1], by simp [e2, Ne.symm e]⟩
theorem erase_split {a b : List Nat} {x : Nat} (h : x ∉ a) : (a ++ x :: b).erase x = a ++ b := by
  rw [List.erase_append_right _ h]; simp
end Go.Proofs.YtiacclmapicmdaaDoor
