/- Turning a leaf to a side, in the mind: what stands there behind it. No condition on the program. -/
import Derived.Test.YtiacclmapicmdaaDoorTrMath
namespace Go.Proofs.YtiacclmapicmdaaDoor

theorem nodup_mk {d c : Bool} {a b : T} {k : Nat} : (T.mk d c a k b).ns.Nodup ↔ (a.ns.Nodup ∧ b.ns.Nodup ∧ k ∉ a.ns ∧ k ∉ b.ns ∧ ∀ j, j ∈ a.ns → j ∉ b.ns) := by
  have key : ∀ a b : T, (T.n c a k b).ns.Nodup ↔ (a.ns.Nodup ∧ b.ns.Nodup ∧ k ∉ a.ns ∧ k ∉ b.ns ∧ ∀ j, j ∈ a.ns → j ∉ b.ns) := fun a b => by
    show (a.ns ++ k :: b.ns).Nodup ↔ _
    constructor
    · intro h
      obtain ⟨h1, h2, h3⟩ := List.nodup_append.1 h
      obtain ⟨h4, h5⟩ := List.nodup_cons.1 h2
      exact ⟨h1, h5, fun hm => h3 k hm k (by simp) rfl, h4, fun j hj hm => h3 j hj j (by simp [hm]) rfl⟩
    · rintro ⟨h1, h2, h3, h4, h5⟩
      refine List.nodup_append.2 ⟨h1, List.nodup_cons.2 ⟨h4, h2⟩, ?_⟩
      intro i hi j hj e
      subst e
      rcases List.mem_cons.1 hj with e | hj
      · exact h3 (e ▸ hi)
      · exact h5 i hi hj
  cases d
  · exact key a b
  · show (T.n c b k a).ns.Nodup ↔ _
    rw [key]
    constructor
    · rintro ⟨h1, h2, h3, h4, h5⟩
      exact ⟨h2, h1, h4, h3, fun j hj hm => h5 j hm hj⟩
    · rintro ⟨h1, h2, h3, h4, h5⟩
      exact ⟨h2, h1, h4, h3, fun j hj hm => h5 j hm hj⟩
/-- Something stands at a place, below a way down. -/
structure Rp (s : Tr) (u : List Fr) (t : T) (x p : Nat) : Prop where
  up : Up s u x p
  at_ : At s t x p
  nt : t.ns.Nodup
  nu : (fns u).Nodup
  ap : ∀ j, j ∈ t.ns → j ∉ fns u
theorem Rp.turn {s : Tr} {u : List Fr} {d c c' : Bool} {a b g : T} {k y x p : Nat} (h : Rp s u (.mk d c a k (.mk d c' b y g)) x p) :
    Rp (s.turn x d) u (.mk d c' (.mk d c a k b) y g) y p := by
  obtain ⟨hu, ha, hn, nu, ap⟩ := h
  obtain ⟨rfl, x0, hp, hc, ha1, ha2⟩ := at_mk.1 ha
  obtain ⟨hy, y0, hyp, hyc, hb, he⟩ := at_mk.1 ha2
  obtain ⟨na, nB, xa, xB, aB⟩ := nodup_mk.1 hn
  obtain ⟨nb, ne, yb, ye, be⟩ := nodup_mk.1 nB
  have xy : x ≠ y := fun h => xB (T.mem_mk.2 (.inl h))
  have xb : x ∉ b.ns := fun h => xB (T.mem_mk.2 (.inr (.inl h)))
  have xe : x ∉ g.ns := fun h => xB (T.mem_mk.2 (.inr (.inr h)))
  have ya : y ∉ a.ns := fun h => aB y h (T.mem_mk.2 (.inl rfl))
  have ab : ∀ j, j ∈ a.ns → j ∉ b.ns := fun j h h2 => aB j h (T.mem_mk.2 (.inr (.inl h2)))
  have ae : ∀ j, j ∈ a.ns → j ∉ g.ns := fun j h h2 => aB j h (T.mem_mk.2 (.inr (.inr h2)))
  have ux : x ∉ fns u := ap x (T.mem_mk.2 (.inl rfl))
  have uy : y ∉ fns u := ap y (T.mem_mk.2 (.inr (.inr (T.mem_mk.2 (.inl rfl)))))
  have ua : ∀ j, j ∈ a.ns → j ∉ fns u := fun j h => ap j (T.mem_mk.2 (.inr (.inl h)))
  have ub : ∀ j, j ∈ b.ns → j ∉ fns u := fun j h => ap j (T.mem_mk.2 (.inr (.inr (T.mem_mk.2 (.inr (.inl h))))))
  have ue : ∀ j, j ∈ g.ns → j ∉ fns u := fun j h => ap j (T.mem_mk.2 (.inr (.inr (T.mem_mk.2 (.inr (.inr h))))))
  obtain ⟨z, hz⟩ : ∃ z, z = s.ch y d := ⟨_, rfl⟩
  rw [← hz] at hb
  have zc : z = 0 ∨ (z ∈ b.ns ∧ z ≠ 0) := by
    rcases at_root hb with ⟨_, h⟩ | ⟨h1, h2, _⟩
    · exact .inl h
    · exact .inr ⟨h1, h2⟩
  have zx : z ≠ x ∨ z = 0 := by
    rcases zc with h | ⟨h, _⟩
    · exact .inr h
    · exact .inl fun e => xb (e ▸ h)
  have zy : z ≠ y ∨ z = 0 := by
    rcases zc with h | ⟨h, _⟩
    · exact .inr h
    · exact .inl fun e => yb (e ▸ h)
  -- the parent is none of the leaves below
  have pp : p = 0 ∨ p ∈ fns u := by
    rcases up_par hu with h | h
    · exact .inl h.2
    · exact .inr h.1
  have pn : ∀ j, j ∉ fns u → j ≠ 0 → j ≠ p := fun j h h0 e => by
    rcases pp with h1 | h1
    · exact h0 (e.trans h1)
    · exact h (e ▸ h1)
  obtain ⟨sd, hsd⟩ : ∃ b, b = s.onR p x := ⟨_, rfl⟩
  have hs1 : s.place x y = s.join p sd y := by unfold Tr.place; rw [hp, ← hsd]
  have ht : s.turn x d = ((s.join p sd y).join x (!d) z).join y d x := by unfold Tr.turn; rw [hy, hs1, ← hz]
  rw [ht]
  have u1 : Up (s.join p sd y) u y p := up_join hu uy nu sd (fun h0 => by rw [hsd]; exact up_side hu x0 ux h0)
  have CH : ∀ j f, ((((s.join p sd y).join x (!d) z).join y d x).ch j f) = if j = y ∧ f = d then x else if j = x ∧ f = !d then z else if j = p ∧ p ≠ 0 ∧ f = sd then y else s.ch j f := fun j f => by
    rw [Tr.ch_join, Tr.ch_join, Tr.ch_join]
    simp only [y0, x0, ne_eq, not_false_eq_true, true_and]
  have PA : ∀ j, ((((s.join p sd y).join x (!d) z).join y d x).par j) = if j = x then y else if j = z ∧ z ≠ 0 then x else if j = y then p else s.par j := fun j => by
    rw [Tr.par_join, Tr.par_join, Tr.par_join]
    simp only [y0, x0, ne_eq, not_false_eq_true, and_true]
  have RE : ∀ j, ((((s.join p sd y).join x (!d) z).join y d x).red j) = s.red j := fun j => by rw [Tr.red_join, Tr.red_join, Tr.red_join]
  have TP : ((((s.join p sd y).join x (!d) z).join y d x).top) = (s.join p sd y).top := by
    rw [Tr.top_join, if_neg y0, Tr.top_join, if_neg x0]
  have CH1 : ∀ j f, (s.join p sd y).ch j f = if j = p ∧ p ≠ 0 ∧ f = sd then y else s.ch j f := fun j f => by rw [Tr.ch_join]
  have PA1 : ∀ j, (s.join p sd y).par j = if j = y then p else s.par j := fun j => by
    rw [Tr.par_join]
    simp only [y0, ne_eq, not_false_eq_true, and_true]
  have RE1 : ∀ j, (s.join p sd y).red j = s.red j := fun j => Tr.red_join _ _ _ _ _
  generalize ((s.join p sd y).join x (!d) z).join y d x = s' at *
  have px : ¬ x = p := pn x ux x0
  have py : ¬ y = p := pn y uy y0
  have hx0 : s.par x = p := hp
  -- leaves of the three parts
  have part : ∀ j, j ≠ x → j ≠ y → j ∉ fns u → j ≠ 0 → (∀ f, s'.ch j f = s.ch j f) ∧ s'.red j = s.red j := fun j h1 h2 h3 h0 => by
    have h4 := pn j h3 h0
    exact ⟨fun f => by rw [CH, if_neg (fun h => h2 h.1), if_neg (fun h => h1 h.1), if_neg (fun h => h4 h.1)], RE j⟩
  have nz : ∀ {t : T} {x p : Nat}, At s t x p → ∀ j, j ∈ t.ns → j ≠ 0 := fun ht j hj e => at_pos ht (e ▸ hj)
  have ha' : At s' a (s'.ch x d) x := by
    have e1 : s'.ch x d = s.ch x d := by
      rw [CH, if_neg (fun h => xy h.1), if_neg (fun h => by cases d <;> simp at h), if_neg (fun h => px h.1)]
    rw [e1]
    refine at_same ha1 (fun j hj => ?_) na
    have j1 : j ≠ x := fun e => xa (e ▸ hj)
    have j2 : j ≠ y := fun e => ya (e ▸ hj)
    have h := part j j1 j2 (ua j hj) (nz ha1 j hj)
    refine ⟨h.1, h.2, ?_⟩
    rw [PA, if_neg j1, if_neg (fun h => ?_), if_neg j2]
    rcases zc with h2 | ⟨h2, _⟩
    · exact h.2 h2
    · exact ab j hj (h.1 ▸ h2)
  have he' : At s' g (s'.ch y (!d)) y := by
    have e1 : s'.ch y (!d) = s.ch y (!d) := by
      rw [CH, if_neg (fun h => by cases d <;> simp at h), if_neg (fun h => xy h.1.symm), if_neg (fun h => py h.1)]
    rw [e1]
    refine at_same he (fun j hj => ?_) ne
    have j1 : j ≠ x := fun e => xe (e ▸ hj)
    have j2 : j ≠ y := fun e => ye (e ▸ hj)
    have h := part j j1 j2 (ue j hj) (nz he j hj)
    refine ⟨h.1, h.2, ?_⟩
    rw [PA, if_neg j1, if_neg (fun h => ?_), if_neg j2]
    rcases zc with h2 | ⟨h2, _⟩
    · exact h.2 h2
    · exact be j (h.1 ▸ h2) hj
  have hb' : At s' b (s'.ch x (!d)) x := by
    have e1 : s'.ch x (!d) = z := by
      rw [CH, if_neg (fun h => xy h.1), if_pos ⟨rfl, rfl⟩]
    rw [e1]
    refine at_move hb (fun j hj => ?_) (fun j hj hjz => ?_) (fun hz0 => ?_) nb
    · exact part j (fun q => xb (q ▸ hj)) (fun q => yb (q ▸ hj)) (ub j hj) (nz hb j hj)
    · have j1 : j ≠ x := fun q => xb (q ▸ hj)
      have j2 : j ≠ y := fun q => yb (q ▸ hj)
      rw [PA, if_neg j1, if_neg (fun h => hjz h.1), if_neg j2]
    · rw [PA, if_neg (fun e => zx.elim (fun h => h e) (fun h => hz0 h)), if_pos ⟨rfl, hz0⟩]
  refine ⟨?_, ?_, ?_, nu, ?_⟩
  · refine up_same u1 (fun j hj => ?_) TP nu
    have jx : j ≠ x := fun e => ux (e ▸ hj)
    have jy : j ≠ y := fun e => uy (e ▸ hj)
    refine ⟨fun f => by rw [CH, CH1, if_neg (fun h => jy h.1), if_neg (fun h => jx h.1)], by rw [RE, RE1], ?_⟩
    rw [PA, PA1, if_neg jx, if_neg (fun h => ?_)]
    rcases zc with h2 | ⟨h2, _⟩
    · exact h.2 h2
    · exact ub j (h.1 ▸ h2) hj
  · refine at_mk.2 ⟨rfl, y0, ?_, by rw [RE]; exact hyc, ?_, he'⟩
    · rw [PA, if_neg (fun e => xy e.symm), if_neg (fun h => zy.elim (fun h2 => h2 h.1.symm) (fun h2 => h.2 h2)), if_pos rfl]
    · have e1 : s'.ch y d = x := by rw [CH, if_pos ⟨rfl, rfl⟩]
      rw [e1]
      exact at_mk.2 ⟨rfl, x0, by rw [PA, if_pos rfl], by rw [RE]; exact hc, ha', hb'⟩
  · refine nodup_mk.2 ⟨nodup_mk.2 ⟨na, nb, xa, xb, ab⟩, ne, fun h => ?_, ye, fun j h h2 => ?_⟩
    · rcases T.mem_mk.1 h with h | h | h
      · exact xy h.symm
      · exact ya h
      · exact yb h
    · rcases T.mem_mk.1 h with h | h | h
      · exact xe (h ▸ h2)
      · exact ae j h h2
      · exact be j h h2
  · intro j hj
    rcases T.mem_mk.1 hj with h | h | h
    · rw [h]; exact uy
    · rcases T.mem_mk.1 h with h | h | h
      · rw [h]; exact ux
      · exact ua j h
      · exact ub j h
    · exact ue j h
/-- A leaf at a place is painted. -/
theorem Rp.paint {s : Tr} {u : List Fr} {d c : Bool} {a b : T} {k x p : Nat} (h : Rp s u (.mk d c a k b) x p) (c' : Bool) : Rp (s.paint x c') u (.mk d c' a k b) x p := by
  obtain ⟨hu, ha, hn, nu, ap⟩ := h
  obtain ⟨rfl, x0, hp, hc, ha1, ha2⟩ := at_mk.1 ha
  obtain ⟨na, nb, xa, xb, ab⟩ := nodup_mk.1 hn
  have ux : x ∉ fns u := ap x (T.mem_mk.2 (.inl rfl))
  have same : ∀ j, j ≠ x → (∀ f, (s.paint x c').ch j f = s.ch j f) ∧ (s.paint x c').red j = s.red j ∧ (s.paint x c').par j = s.par j := fun j hj =>
    ⟨fun f => Tr.ch_paint _ _ _ _ _, by rw [Tr.red_paint, if_neg (fun h => hj h.1)], Tr.par_paint _ _ _ _⟩
  refine ⟨up_same hu (fun j hj => same j (fun e => ux (e ▸ hj))) (Tr.top_paint _ _ _) nu, at_mk.2 ⟨rfl, x0, ?_, ?_, ?_, ?_⟩, nodup_mk.2 ⟨na, nb, xa, xb, ab⟩, nu, fun j hj => ap j (by rw [T.mem_mk] at hj ⊢; exact hj)⟩
  · rw [Tr.par_paint]; exact hp
  · rw [Tr.red_paint, if_pos ⟨rfl, x0⟩]
  · rw [Tr.ch_paint]
    exact at_same ha1 (fun j hj => same j (fun e => xa (e ▸ hj))) na
  · rw [Tr.ch_paint]
    exact at_same ha2 (fun j hj => same j (fun e => xb (e ▸ hj))) nb
/-- One step down, one step up. -/
theorem rp_down {s : Tr} {u : List Fr} {d c : Bool} {a b : T} {k x p : Nat} : Rp s u (.mk d c a k b) x p ↔ x = k ∧ Rp s (⟨d, c, k, b⟩ :: u) a (s.ch k d) k ∧ s.par k = p := by
  constructor
  · rintro ⟨hu, ha, hn, nu, ap⟩
    obtain ⟨rfl, x0, hp, hc, ha1, ha2⟩ := at_mk.1 ha
    obtain ⟨na, nb, xa, xb, ab⟩ := nodup_mk.1 hn
    refine ⟨rfl, ⟨⟨rfl, x0, rfl, hc, ha2, by rw [hp]; exact hu⟩, ha1, na, ?_, ?_⟩, hp⟩
    · show (x :: (b.ns ++ fns u)).Nodup
      refine List.nodup_cons.2 ⟨?_, List.nodup_append.2 ⟨nb, nu, ?_⟩⟩
      · simp only [List.mem_append, not_or]
        exact ⟨xb, ap x (T.mem_mk.2 (.inl rfl))⟩
      · intro i hi j hj e
        subst e
        exact ap i (T.mem_mk.2 (.inr (.inr hi))) hj
    · intro j hj
      show j ∉ x :: (b.ns ++ fns u)
      simp only [List.mem_cons, List.mem_append, not_or]
      exact ⟨fun e => xa (e ▸ hj), ab j hj, ap j (T.mem_mk.2 (.inr (.inl hj)))⟩
  · rintro ⟨rfl, ⟨⟨_, x0, h3, h4, h5, h6⟩, ha, na, nf, ap⟩, hp⟩
    simp only [fns] at nf
    obtain ⟨hf, nf⟩ := List.nodup_cons.1 nf
    obtain ⟨nb, nu, hd⟩ := List.nodup_append.1 nf
    simp only [List.mem_append, not_or] at hf
    have apj : ∀ j, j ∈ a.ns → j ≠ x ∧ j ∉ b.ns ∧ j ∉ fns u := fun j hj => by
      have := ap j hj
      simp only [fns, List.mem_cons, List.mem_append, not_or] at this
      exact this
    refine ⟨by rw [← hp]; exact h6, at_mk.2 ⟨rfl, x0, hp, h4, ha, h5⟩, nodup_mk.2 ⟨na, nb, fun h => (apj x h).1 rfl, hf.1, fun j hj => (apj j hj).2.1⟩, nu, ?_⟩
    intro j hj
    rcases T.mem_mk.1 hj with h | h | h
    · rw [h]; exact hf.2
    · exact (apj j h).2.2
    · exact fun h2 => hd j h j h2 rfl
end Go.Proofs.YtiacclmapicmdaaDoor
