/- What a case leaves alone: leaves that stand in no tree. No condition on the program. -/
import Derived.Test.YtiacclmapicmdaaDoorTrLoop
namespace Go.Proofs.YtiacclmapicmdaaDoor

/-- Only leaves of S are turned to anything else. -/
def Out (S : List Nat) (s s' : Tr) : Prop := ∀ j, j ∉ S → j ≠ 0 → (∀ d, s'.ch j d = s.ch j d) ∧ s'.par j = s.par j ∧ s'.red j = s.red j
theorem Out.refl (S : List Nat) (s : Tr) : Out S s s := fun _ _ _ => ⟨fun _ => rfl, rfl, rfl⟩
theorem Out.trans {S : List Nat} {s s' s'' : Tr} (h : Out S s s') (h' : Out S s' s'') : Out S s s'' := fun j hj j0 =>
  ⟨fun d => ((h' j hj j0).1 d).trans ((h j hj j0).1 d), (h' j hj j0).2.1.trans (h j hj j0).2.1, (h' j hj j0).2.2.trans (h j hj j0).2.2⟩
theorem out_paint {S : List Nat} {s : Tr} {k : Nat} (c : Bool) (hk : k ∈ S ∨ k = 0) : Out S s (s.paint k c) := fun j hj j0 =>
  ⟨fun d => Tr.ch_paint _ _ _ _ _, Tr.par_paint _ _ _ _, by
    rw [Tr.red_paint, if_neg]
    rintro ⟨rfl, _⟩
    exact hk.elim hj j0⟩
theorem out_join {S : List Nat} {s : Tr} {p k : Nat} (d : Bool) (hp : p ∈ S ∨ p = 0) (hk : k ∈ S ∨ k = 0) : Out S s (s.join p d k) := fun j hj j0 => by
  refine ⟨fun e => ?_, ?_, Tr.red_join _ _ _ _ _⟩
  · rw [Tr.ch_join, if_neg]
    rintro ⟨rfl, _, _⟩
    exact hp.elim hj j0
  · rw [Tr.par_join, if_neg]
    rintro ⟨rfl, _⟩
    exact hk.elim hj j0
theorem out_turn {S : List Nat} {s : Tr} {x : Nat} (d : Bool) (hx : x ∈ S ∨ x = 0) (hy : s.ch x (!d) ∈ S ∨ s.ch x (!d) = 0) (hz : s.ch (s.ch x (!d)) d ∈ S ∨ s.ch (s.ch x (!d)) d = 0) (hp : s.par x ∈ S ∨ s.par x = 0) : Out S s (s.turn x d) :=
  ((out_join _ hp hy).trans (out_join _ hx hz)).trans (out_join _ hy hx)
theorem mem_plug : ∀ {u : List Fr} {t : T} {j : Nat}, j ∈ (plug u t).ns ↔ j ∈ t.ns ∨ j ∈ fns u
  | [], t, j => by simp [plug, fns]
  | f :: u, t, j => by
    show j ∈ (plug u (.mk f.d f.c t f.k f.o)).ns ↔ _
    rw [mem_plug, T.mem_mk]
    simp only [fns, List.mem_cons, List.mem_append]
    constructor
    · rintro ((h | h | h) | h) <;> simp [h]
    · rintro (h | h | h | h) <;> simp [h]
theorem root_mem (t : T) : t.root ∈ t.ns ∨ t.root = 0 := by
  cases t <;> simp [T.root, T.ns]
theorem on_mem {t : T} {d : Bool} {j : Nat} (h : j ∈ (t.on d).ns) : j ∈ t.ns := by
  cases t with
  | e => exact h
  | n c l k r => cases d <;> simp only [T.on, T.ns, Bool.false_eq_true, if_false, if_true, List.mem_append, List.mem_cons] at h ⊢ <;> simp [h]
theorem on_root (t : T) (d : Bool) : (t.on d).root ∈ t.ns ∨ (t.on d).root = 0 := (root_mem _).imp on_mem id
theorem Rp.out_turn {s : Tr} {u : List Fr} {d : Bool} {t : T} {x p : Nat} {S : List Nat} (h : Rp s u t x p) (ht : t.isE = false) (hy : (t.on (!d)).isE = false) (hS : ∀ j, j ∈ (plug u t).ns → j ∈ S) : Out S s (s.turn x d) := by
  have up : ∀ {j}, (j ∈ t.ns ∨ j = 0) → (j ∈ S ∨ j = 0) := fun h => h.imp (fun h => hS _ (mem_plug.2 (.inl h))) id
  obtain ⟨h1, _, h3, _⟩ := h.kid ht
  have e := T.as_mk ht (!d)
  rw [Bool.not_not] at e
  have h' := h
  rw [e] at h'
  have h2 := h'.in_
  have hx := h.root
  rw [← hx] at h2
  have hyk := h2.kid hy
  refine Go.Proofs.YtiacclmapicmdaaDoor.out_turn d (up ?_) (up ?_) (up ?_) ?_
  · rw [hx]; exact root_mem t
  · rw [h1]; exact on_root t _
  · rw [hyk.1]
    exact (on_root _ _).imp on_mem id
  · rw [h3]
    rcases up_par h.up with ⟨_, h4⟩ | ⟨h4, _⟩
    · exact .inr h4
    · exact .inl (hS _ (mem_plug.2 (.inr h4)))
end Go.Proofs.YtiacclmapicmdaaDoor
