/- What a round of the rebalancing behind a removal reads, and what its relation is afterwards. No condition on the program. -/
import Derived.Test.YtiacclmapicmdaaDoorTrStep
namespace Go.Proofs.YtiacclmapicmdaaDoor
open Go.RowKit

/-- The relation of the rebalancing behind a removal: what it comes to is delFix u0 T0. -/
structure Rd (u0 : List Fr) (T0 : T) (s0 s : Tr) (u : List Fr) (t : T) (x p : Nat) : Prop where
  rp : Rp s u t x p
  bal : t.red = false → ∃ n, Bu u (n + 1) ∧ Bal t n
  fx : delFix u t = delFix u0 T0
  out : Out (plug u0 T0).ns s0 s
/-- What a round knows of the sibling. -/
structure Rw (c : Cx) (s : Tr) (O : T) : Prop where
  w : c.N O.root
  ch : ∀ d, s.ch O.root d = (O.on d).root
  red : ∀ d, s.red (O.on d).root = (O.on d).red
  nN : ∀ d, (O.on d).root = 0 ∨ c.N (O.on d).root
section
variable {c : Cx} {u0 : List Fr} {T0 : T} {s0 s : Tr} {u : List Fr} {t : T} {x p : Nat} {f : Fr}
theorem Rd.ns (r : Rd u0 T0 s0 s u t x p) : (plug u t).ns = (plug u0 T0).ns := by
  rw [← delFix_ns u, r.fx, delFix_ns u0]
theorem Rd.mem (r : Rd u0 T0 s0 s u t x p) : ∀ j, j ∈ (plug u t).ns → j ∈ (plug u0 T0).ns := fun j hj => by rw [← r.ns]; exact hj
theorem Rp.rw_ (h : Rp s (f :: u) t x p) (z : Zn s) (hN : ∀ j, j ∈ (plug (f :: u) t).ns → c.N j) (he : f.o.isE = false) : Rw c s f.o := by
  have ho := h.over
  have hom : ∀ j, j ∈ f.o.ns → c.N j := fun j hj => hN j (mem_plug.2 (.inr (by simp [fns, hj])))
  have hk := ho.kid he
  refine ⟨?_, hk.1, fun d => ?_, fun d => (on_root f.o d).symm.imp id (hom _)⟩
  · rcases root_mem f.o with hm | hm
    · exact hom _ hm
    · exact absurd hm hk.2.2.2
  · have e := T.as_mk he d
    have h1 := ho
    rw [e] at h1
    have h2 := h1.in_.at_.col z
    rw [← hk.1 d]
    exact h2
/-- A black leaf is missing on one side: there is a sibling on the other one; a red one has a black parent and two black children. -/
theorem Rd.sib (r : Rd u0 T0 s0 s (f :: u) t x p) (ht : t.red = false) : f.o.isE = false ∧ (f.o.red = true → f.c = false ∧ (f.o.on f.d).red = false ∧ (f.o.on (!f.d)).red = false) := by
  obtain ⟨n, ⟨b1, b2, b3⟩, b4⟩ := r.bal ht
  have he := bal_isE b1
  refine ⟨he, fun hr => ?_⟩
  have e := T.as_mk he f.d
  rw [hr] at e
  rw [e] at b1
  obtain ⟨_, _, c3, c4⟩ := bal_red.1 b1
  refine ⟨?_, c3, c4⟩
  cases hc : f.c with
  | false => rfl
  | true =>
    have := (b2 hc).1
    rw [hr] at this
    cases this
theorem Rd.one (r : Rd u0 T0 s0 s (f :: u) t x p) (ht : t.red = false) (hw : f.o.red = true) :
    Rd u0 T0 s0 (((s.paint f.o.root false).paint f.k true).turn f.k f.d) (⟨f.d, true, f.k, f.o.on f.d⟩ :: ⟨f.d, false, f.o.root, f.o.on (!f.d)⟩ :: u) t x p := by
  obtain ⟨he, hs⟩ := r.sib ht
  obtain ⟨hc, ha, hb⟩ := hs hw
  obtain ⟨n, ⟨b1, b2, b3⟩, b4⟩ := r.bal ht
  rw [hc] at b3
  simp only [Bool.false_eq_true, if_false] at b3
  have e := T.as_mk he f.d
  rw [hw] at e
  rw [e] at b1
  obtain ⟨c1, c2, _, _⟩ := bal_red.1 b1
  refine ⟨del_one r.rp hw, fun _ => ⟨n, ⟨c1, fun _ => ⟨ha, rfl⟩, by simp only [if_true]; exact ⟨c2, (fun h => by cases h), by simp only [Bool.false_eq_true, if_false]; exact b3⟩⟩, b4⟩, ?_, r.out.trans (del_one_out r.rp hw r.mem)⟩
  rw [← r.fx]
  exact (delFix_one ht hw ha).symm
theorem Rd.two (r : Rd u0 T0 s0 s (f :: u) t x p) (ht : t.red = false) (hw : f.o.red = false) (h1 : (f.o.on f.d).red = false) (h2 : (f.o.on (!f.d)).red = false) :
    Rd u0 T0 s0 (s.paint f.o.root true) u (.mk f.d f.c t f.k (f.o.col true)) f.k (s.par f.k) := by
  obtain ⟨n, ⟨b1, b2, b3⟩, b4⟩ := r.bal ht
  refine ⟨del_two r.rp, fun hr => ?_, ?_, r.out.trans (del_two_out r.rp r.mem)⟩
  · rw [T.red_mk] at hr
    rw [hr] at b3 ⊢
    simp only [Bool.false_eq_true, if_false] at b3
    have h3 : (f.o.on false).red = false ∧ (f.o.on true).red = false := by
      cases hd : f.d <;> rw [hd] at h1 h2
      · exact ⟨h1, h2⟩
      · exact ⟨h2, h1⟩
    exact ⟨n + 1, b3, bal_black.2 ⟨b4, bal_redden b1 hw h3.1 h3.2⟩⟩
  · rw [← r.fx]
    exact (delFix_two ht hw h1 h2).symm
theorem Rd.near (r : Rd u0 T0 s0 s (f :: u) t x p) (ht : t.red = false) (hw : f.o.red = false) (hn : (f.o.on f.d).red = true) (hf : (f.o.on (!f.d)).red = false) :
    Rp (((s.paint (f.o.on f.d).root false).paint f.o.root true).turn f.o.root (!f.d)) (⟨f.d, f.c, f.k, .mk f.d false ((f.o.on f.d).on f.d) (f.o.on f.d).root (.mk f.d true ((f.o.on f.d).on (!f.d)) f.o.root (f.o.on (!f.d)))⟩ :: u) t x p ∧
    delFix (⟨f.d, f.c, f.k, .mk f.d false ((f.o.on f.d).on f.d) (f.o.on f.d).root (.mk f.d true ((f.o.on f.d).on (!f.d)) f.o.root (f.o.on (!f.d)))⟩ :: u) t = delFix u0 T0 ∧
    Out (plug u0 T0).ns s0 (((s.paint (f.o.on f.d).root false).paint f.o.root true).turn f.o.root (!f.d)) := by
  refine ⟨del_near r.rp hn, ?_, r.out.trans (del_near_out r.rp hn r.mem)⟩
  rw [← r.fx]
  exact (delFix_near ht hw hf hn).symm
theorem whole_top {s : Tr} {u : List Fr} {t : T} {x p : Nat} (h : Rp s u t x p) : Rp s [] (plug u t) s.top 0 := by
  obtain ⟨x', p', h1⟩ := rp_plug (lo := u) (u := []) (by rw [List.append_nil]; exact h)
  obtain ⟨e1, e2⟩ := h1.top
  subst e1
  rw [← e2] at h1
  exact h1
theorem far_done {S : List Nat} (h : Rp s (f :: u) t x p) (ht : t.red = false) (he : f.o.isE = false) (hw : f.o.red = false) (hf : (f.o.on (!f.d)).red = true) (hfx : delFix (f :: u) t = delFix u0 T0) (hout : Out S s0 s) (hmem : ∀ j, j ∈ (plug (f :: u) t).ns → j ∈ S) :
    Rp ((((s.paint f.o.root f.c).paint f.k false).paint (f.o.on (!f.d)).root false).turn f.k f.d) [] (delFix u0 T0) ((((s.paint f.o.root f.c).paint f.k false).paint (f.o.on (!f.d)).root false).turn f.k f.d).top 0 ∧
    Out S s0 ((((s.paint f.o.root f.c).paint f.k false).paint (f.o.on (!f.d)).root false).turn f.k f.d) := by
  refine ⟨?_, hout.trans (del_far_out h he hmem)⟩
  rw [← hfx, delFix_far ht hw hf]
  exact whole_top (del_far h he)
/-- Ends: x is painted. -/
theorem Rd.stop (r : Rd u0 T0 s0 s u t x p) (h : u = [] ∨ t.red = true) : Rp (s.paint x false) [] (delFix u0 T0) (s.paint x false).top 0 ∧ Out (plug u0 T0).ns s0 (s.paint x false) := by
  refine ⟨?_, r.out.trans (out_paint _ ?_)⟩
  · have h1 := whole_top (r.rp.col false)
    rw [← r.fx]
    cases u with
    | nil => exact h1
    | cons f u => rw [delFix_red (h.resolve_left (by simp))]; exact h1
  · rw [r.rp.root]
    exact (root_mem t).imp (fun hm => r.mem _ (mem_plug.2 (.inl hm))) id
theorem done_stop {S : List Nat} {T1 : T} (h : Rp s [] T1 s.top 0) (hb : T1.red = false) (hS : ∀ j, j ∈ T1.ns → j ∈ S) (ho : Out S s0 s) : Rp (s.paint s.top false) [] T1 (s.paint s.top false).top 0 ∧ Out S s0 (s.paint s.top false) := by
  have h1 := h.col false
  rw [col_black hb] at h1
  rw [Tr.top_paint]
  refine ⟨h1, ho.trans (out_paint _ ?_)⟩
  have := h.root
  rw [this]
  exact (root_mem T1).imp (hS _) id
/-- What stands where a case rotates. -/
theorem one_rp (h : Rp s (f :: u) t x p) : ∃ U' t', Rp ((s.paint f.o.root false).paint f.k true) U' t' f.k (((s.paint f.o.root false).paint f.k true).par f.k) ∧ t'.isE = false := by
  have h1 := ((h.other false).colUp true).out
  exact ⟨_, _, h1, T.isE_mk ..⟩
theorem near_rp (h : Rp s (f :: u) t x p) (hn : (f.o.on f.d).red = true) : ∃ U' t' p', Rp ((s.paint (f.o.on f.d).root false).paint f.o.root true) U' t' f.o.root p' ∧ t'.isE = false := by
  have he : f.o.isE = false := by
    cases ho : f.o with
    | e => rw [ho] at hn; cases hn
    | n => rfl
  have h1 := h.over
  have e := T.as_mk he f.d
  generalize f.o.on f.d = a, f.o.on (!f.d) = b, f.o.root = k, f.o.red = cc at e h1 hn ⊢
  rw [e] at h1
  have h2 := h1.in_
  have e1 := h2.root
  rw [e1] at h2
  have h3 := ((h2.col false).colUp true).out
  exact ⟨_, _, _, h3, T.isE_mk ..⟩
theorem far_rp (h : Rp s (f :: u) t x p) (hw : f.o.isE = false) : ∃ U' t' p', Rp (((s.paint f.o.root f.c).paint f.k false).paint (f.o.on (!f.d)).root false) U' t' f.k p' ∧ t'.isE = false := by
  have h1 := (h.other f.c).colUp false
  have e := T.as_mk hw f.d
  generalize f.o.on f.d = a, f.o.on (!f.d) = b, f.o.root = k, f.o.red = cc at e h1 ⊢
  simp only [e, T.col_mk] at h1
  have h2 := h1.over
  rw [T.root_mk] at h2
  simp only at h2
  rw [← T.mk_not] at h2
  have h3 := h2.in_
  have e3 := h3.root
  rw [e3] at h3
  have h4 := (h3.col false).out
  rw [T.mk_not] at h4
  have h5 := h4.over.out
  exact ⟨_, _, _, h5, T.isE_mk ..⟩
end
end Go.Proofs.YtiacclmapicmdaaDoor
