/- Each case leaves alone what stands in no tree; an addition and a removal, whole. No condition on the program. -/
import Derived.Test.YtiacclmapicmdaaDoorTrOut
namespace Go.Proofs.YtiacclmapicmdaaDoor

/-- A way's leaves are among S. -/
structure Ms (S : List Nat) (s : Tr) (f : Fr) (t : T) : Prop where
  k : f.k ∈ S ∨ f.k = 0
  o : ∀ j, j ∈ f.o.ns ∨ j = 0 → j ∈ S ∨ j = 0
  t : ∀ j, j ∈ t.ns ∨ j = 0 → j ∈ S ∨ j = 0
  p : s.par f.k ∈ S ∨ s.par f.k = 0
theorem Rp.ms {s : Tr} {f : Fr} {u : List Fr} {t : T} {x p : Nat} {S : List Nat} (h : Rp s (f :: u) t x p) (hS : ∀ j, j ∈ (plug (f :: u) t).ns → j ∈ S) : Ms S s f t := by
  have hf : ∀ j, j ∈ fns (f :: u) → j ∈ S := fun j hj => hS j (mem_plug.2 (.inr hj))
  refine ⟨.inl (hf _ (by simp [fns])), fun j hj => hj.imp (fun hj => hf _ (by simp [fns, hj])) id, fun j hj => hj.imp (fun hj => hS _ (mem_plug.2 (.inl hj))) id, ?_⟩
  rcases up_par h.out.up with ⟨_, h1⟩ | ⟨h1, _⟩
  · exact .inr h1
  · exact .inl (hf _ (by simp only [fns, List.mem_cons, List.mem_append]; exact .inr (.inr h1)))
section
variable {s : Tr} {f g : Fr} {u : List Fr} {t : T} {x p : Nat} {S : List Nat}
theorem add_red_out (h : Rp s (f :: g :: u) t x p) (hS : ∀ j, j ∈ (plug (f :: g :: u) t).ns → j ∈ S) : Out S s (((s.paint f.k false).paint g.o.root false).paint g.k true) := by
  have m := h.ms hS
  have m2 := h.out.ms (S := S) hS
  exact ((out_paint _ m.k).trans (out_paint _ (m2.o _ (root_mem _)))).trans (out_paint _ m2.k)
theorem add_in_out (h : Rp s (f :: g :: u) t x p) (ht : t.isE = false) (hd : f.d = !g.d) (hS : ∀ j, j ∈ (plug (f :: g :: u) t).ns → j ∈ S) : Out S s (s.turn f.k g.d) := by
  have m := h.ms hS
  obtain ⟨_, h1, _⟩ := h.fr
  rw [hd] at h1
  have hk := (h.kid ht).1
  refine out_turn _ m.k ?_ ?_ m.p
  · rw [h1, h.root]; exact m.t _ (root_mem _)
  · rw [h1, hk]; exact m.t _ (on_root _ _)
theorem add_out_out (h : Rp s (f :: g :: u) t x p) (hd : f.d = g.d) (hS : ∀ j, j ∈ (plug (f :: g :: u) t).ns → j ∈ S) : Out S s (((s.paint f.k false).paint g.k true).turn g.k (!g.d)) := by
  have m := h.ms hS
  have m2 := h.out.ms (S := S) hS
  obtain ⟨_, _, h3, _⟩ := h.fr
  obtain ⟨_, h1, _⟩ := h.out.fr
  refine ((out_paint _ m.k).trans (out_paint _ m2.k)).trans (out_turn _ m2.k ?_ ?_ ?_) <;> simp only [Tr.ch_paint, Tr.par_paint, Bool.not_not]
  · rw [h1]; exact m.k
  · rw [h1, ← hd, h3]; exact m.o _ (root_mem _)
  · exact m2.p
theorem del_one_out (h : Rp s (f :: u) t x p) (hw : f.o.red = true) (hS : ∀ j, j ∈ (plug (f :: u) t).ns → j ∈ S) : Out S s (((s.paint f.o.root false).paint f.k true).turn f.k f.d) := by
  have m := h.ms hS
  obtain ⟨_, _, h3, _⟩ := h.fr
  have hk := (h.over.kid (red_isE hw)).1
  refine ((out_paint _ (m.o _ (root_mem _))).trans (out_paint _ m.k)).trans (out_turn _ m.k ?_ ?_ ?_) <;> simp only [Tr.ch_paint, Tr.par_paint]
  · rw [h3]; exact m.o _ (root_mem _)
  · rw [h3, hk]; exact m.o _ (on_root _ _)
  · exact m.p
theorem del_two_out (h : Rp s (f :: u) t x p) (hS : ∀ j, j ∈ (plug (f :: u) t).ns → j ∈ S) : Out S s (s.paint f.o.root true) :=
  out_paint _ ((h.ms hS).o _ (root_mem _))
theorem del_near_out (h : Rp s (f :: u) t x p) (hn : (f.o.on f.d).red = true) (hS : ∀ j, j ∈ (plug (f :: u) t).ns → j ∈ S) : Out S s (((s.paint (f.o.on f.d).root false).paint f.o.root true).turn f.o.root (!f.d)) := by
  have he : f.o.isE = false := by
    cases ho : f.o with
    | e => rw [ho] at hn; cases hn
    | n => rfl
  have m := h.ms hS
  have ho := h.over.kid he
  have e := T.as_mk he f.d
  have h1 := h.over
  rw [e, T.root_mk] at h1
  have h2 := h1.in_
  have hk := (h2.kid (red_isE hn)).1
  rw [ho.1] at hk
  refine ((out_paint _ (m.o _ (on_root _ _))).trans (out_paint _ (m.o _ (root_mem _)))).trans (out_turn _ (m.o _ (root_mem _)) ?_ ?_ ?_) <;> simp only [Tr.ch_paint, Tr.par_paint, Bool.not_not]
  · rw [ho.1]; exact m.o _ (on_root _ _)
  · rw [ho.1, hk]
    exact m.o _ ((on_root _ _).imp on_mem id)
  · rw [ho.2.2.1]; exact m.k
theorem del_far_out (h : Rp s (f :: u) t x p) (hw : f.o.isE = false) (hS : ∀ j, j ∈ (plug (f :: u) t).ns → j ∈ S) : Out S s ((((s.paint f.o.root f.c).paint f.k false).paint (f.o.on (!f.d)).root false).turn f.k f.d) := by
  have m := h.ms hS
  obtain ⟨_, _, h3, _⟩ := h.fr
  have hk := (h.over.kid hw).1
  refine (((out_paint _ (m.o _ (root_mem _))).trans (out_paint _ m.k)).trans (out_paint _ (m.o _ (on_root _ _)))).trans (out_turn _ m.k ?_ ?_ ?_) <;> simp only [Tr.ch_paint, Tr.par_paint]
  · rw [h3]; exact m.o _ (root_mem _)
  · rw [h3, hk]; exact m.o _ (on_root _ _)
  · exact m.p
end
/-- A whole tree behind an addition: the new leaf was in none. -/
theorem al_added {s s' : Tr} {t t' : T} {k : Nat} (h : Al s t) (hr : Rp s' [] t' s'.top 0) (hn : ∀ j, j ∈ t'.ns ↔ j = k ∨ j ∈ t.ns) (ho : Out (k :: t.ns) s s') : Al s' t' := by
  refine ⟨hr.at_, hr.nt, fun j hj j0 => ?_⟩
  have hj' : j ≠ k ∧ j ∉ t.ns := by
    rw [hn] at hj
    simpa only [not_or] using hj
  obtain ⟨h1, h2, h3⟩ := ho j (by simp only [List.mem_cons, not_or]; exact hj') j0
  obtain ⟨h4, h5, h6⟩ := h.no j hj'.2 j0
  exact ⟨fun d => (h1 d).trans (h4 d), h2.trans h5, h3.trans h6⟩
/-- A whole tree behind a removal: the leaf that went has no links. -/
theorem al_removed {s s' : Tr} {t t' : T} {k : Nat} (h : Al s t) (hr : Rp s' [] t' s'.top 0) (hn : ∀ j, j ∈ t.ns ↔ j = k ∨ j ∈ t'.ns) (ho : Out t.ns s s') (hz : (∀ d, s'.ch k d = 0) ∧ s'.par k = 0 ∧ s'.red k = false) : Al s' t' := by
  refine ⟨hr.at_, hr.nt, fun j hj j0 => ?_⟩
  by_cases hk : j = k
  · subst hk; exact hz
  · have hj' : j ∉ t.ns := by
      rw [hn]
      simp only [not_or]
      exact ⟨hk, hj⟩
    obtain ⟨h1, h2, h3⟩ := ho j hj' j0
    obtain ⟨h4, h5, h6⟩ := h.no j hj' j0
    exact ⟨fun d => (h1 d).trans (h4 d), h2.trans h5, h3.trans h6⟩
end Go.Proofs.YtiacclmapicmdaaDoor
